/- The contract of mem.Memory's Alloc: the walk. -/
import Derived.Test.YtnjndggdnmboeaaMAlloc
import Derived.Deep.RegionLawGrows
import Derived.Deep.MidRow
namespace Go.Proofs.Ytnjndggdnmboeaa
open Go.RowKit

theorem allocOK_no {s : MS} {n : Int} (h : n < 0 ∨ 256 < n ∨ 4096 < (usedS s : Int) + n + 1) : allocOK s n = false := by
  unfold allocOK
  rw [Bool.eq_false_iff]
  simp only [ne_eq, Bool.and_eq_true, decide_eq_true_eq]
  omega
theorem allocOK_yes {s : MS} {n : Int} (h : 0 ≤ n) (h1 : n ≤ 256) (h2 : (usedS s : Int) + n + 1 ≤ 4096) : allocOK s n = true := by
  unfold allocOK
  simp [h, h1, h2]
theorem allocS_no {s : MS} {n : Int} (h : allocOK s n = false) : allocS s n = s ∧ allocV s n = v0 := by unfold allocS allocV; simp [h]
theorem allocS_yes {s : MS} {k : Nat} (h : allocOK s k = true) : allocS s k = s ++ [⟨true, List.replicate k c0⟩] ∧ allocV s k = ⟨2, 0, (s.length : Int) + 1⟩ := by unfold allocS allocV; simp [h]

theorem alloc_news (W : World) (g1 k : Nat) : ∀ j u, (bCells ⟨true, List.replicate k c0⟩ g1)[j]? = some u → (W.alloc (.cells #[.bool true, .slice (some ⟨g1, 0, none⟩) k k] 75)).cell? ((⟨W.heap.size, 0, none⟩ : Addr).add j) = some u := by
  intro j u hj
  rw [Addr.add_mid, Nat.zero_add, (Blk.new W [.bool true, .slice (some ⟨g1, 0, none⟩) k k] _).cell j]
  simpa [bCells] using hj

theorem own_drew {w : World} {base : Nat} {e : TypeId} {size n : Nat} {v : Value} {xs : List Value} (h : w.ownsRow base e size v n xs) : w.drew.ownsRow base e size v n xs := h
theorem grown_drew {a w : World} {row : Option Nat} (h : a.drew.grownBy w row) : a.grownBy w row := ⟨h.os, h.tape, h.output, h.size, h.block⟩
theorem bCells_one (b : MB) (g : Nat) : ∀ u ∈ bCells b g, u.oneCell' = true := by
  intro u hu
  simp only [bCells, List.mem_cons, List.not_mem_nil, or_false] at hu
  rcases hu with rfl | rfl <;> rfl
abbrev allocW (w : World) (k : Nat) : World := ((w.alloc (.cells #[.int .i64 0, .int .i64 0, .int .i64 0] 34)).alloc (.cells (cRow (List.replicate k c0)).toArray 82)).alloc (.cells #[.bool true, .slice (some ⟨w.heap.size + 1, 0, none⟩) k k] 75)
theorem allocW_below (w : World) (k : Nat) : Below w.heap.size w (allocW w k) := (((Below.refl w.heap.size w).alloc (Nat.le_refl _) _).alloc (by simp) _).alloc (by simp; omega) _
theorem allocW_cells (w : World) (k : Nat) : Blk (allocW w k) (w.heap.size + 1) (cRow (List.replicate k c0)) 82 := by
  have := (Blk.new (w.alloc (.cells #[.int .i64 0, .int .i64 0, .int .i64 0] 34)) (cRow (List.replicate k c0)) 82).alloc (.cells #[.bool true, .slice (some ⟨w.heap.size + 1, 0, none⟩) k k] 75)
  rw [World.size_alloc] at this
  exact this
theorem allocW_res (w : World) (k : Nat) : Blk (allocW w k) w.heap.size [.int .i64 0, .int .i64 0, .int .i64 0] 34 := ((Blk.new w _ _).alloc _).alloc _

theorem allocW_news (w : World) (k : Nat) : ∀ j u, (bCells ⟨true, List.replicate k c0⟩ (w.heap.size + 1))[j]? = some u → (allocW w k).cell? ((⟨w.heap.size + 1 + 1, 0, none⟩ : Addr).add j) = some u := by
  have h := alloc_news ((w.alloc (.cells #[.int .i64 0, .int .i64 0, .int .i64 0] 34)).alloc (.cells (cRow (List.replicate k c0)).toArray 82)) (w.heap.size + 1) k
  rw [World.size_alloc, World.size_alloc] at h
  exact h

theorem three_sets2 {w2 : World} {n : Nat} (x y z : Value) : Ch (· = n) w2 (((w2.setCell ⟨n, 0, none⟩ x).setCell ⟨n, 1, none⟩ y).setCell ⟨n, 2, none⟩ z) :=
  (((Ch.refl _ _).set _ (.inl (show n = n from rfl)) _).set _ (.inl (show n = n from rfl)) _).set _ (.inl (show n = n from rfl)) _
theorem alloc_res {w : World} {b : Nat} {v : Value} {gs : List Nat} {s : MS} {O : Nat → Prop} (_ : Own b v gs O) (h : MemIs w b v gs s) {g W : Nat} (hg : v.ownBlock = some g ∨ g = W) (hW : W = w.heap.size + 1 + 1 + 1) : ∀ x, x = b ∨ x = g ∨ x ∈ gs ++ [w.heap.size + 1] → x ≠ w.heap.size := by
  have h1 := h.blk.lt
  intro x hx
  rcases hx with rfl | rfl | hx
  · omega
  · rcases hg with hg | hg
    · have := row_lt h.row hg
      omega
    · omega
  · rcases List.mem_append.1 hx with hx | hx
    · have := h.lt x hx
      omega
    · rw [List.mem_singleton] at hx
      omega
theorem alloc_done {w W w3 w4 : World} {b : Nat} {v : Value} {gs : List Nat} {s : MS} {O : Nat → Prop} (hO : Own b v gs O) (_h : MemIs w b v gs s) (hb : Below w.heap.size w W) (hgrow : W.grownBy w3 v.ownBlock) {g cap : Nat} {xs : List Value}
    (hown : w3.ownsRow 0 75 2 (.slice (some ⟨g, 0, none⟩) (s.length + 1) cap) (s.length + 1) xs) (hg : v.ownBlock = some g ∨ g = W.heap.size) (hWs : W.heap.size = w.heap.size + 1 + 1 + 1) {k : Nat} {u : Int}
    (hM : MemIs ((w3.setCell ⟨b, 0, none⟩ (.slice (some ⟨g, 0, none⟩) (s.length + 1) cap)).setCell ⟨b, 1, none⟩ (.int .i64 u)) b (.slice (some ⟨g, 0, none⟩) (s.length + 1) cap) (gs ++ [w.heap.size + 1]) (s ++ [⟨true, List.replicate k c0⟩]))
    (hset : Ch (fun k => w.heap.size ≤ k) ((w3.setCell ⟨b, 0, none⟩ (.slice (some ⟨g, 0, none⟩) (s.length + 1) cap)).setCell ⟨b, 1, none⟩ (.int .i64 u)) w4) (hres : ∀ x, x = b ∨ x = g ∨ x ∈ gs ++ [w.heap.size + 1] → x ≠ w.heap.size) (hcell : Ch (· = w.heap.size) ((w3.setCell ⟨b, 0, none⟩ (.slice (some ⟨g, 0, none⟩) (s.length + 1) cap)).setCell ⟨b, 1, none⟩ (.int .i64 u)) w4) {val : Value} :
    MPost b (s ++ [⟨true, List.replicate k c0⟩]) val O w (.returned val) w4 := by
  have hsz3 := hgrow.size
  have hM4 : MemIs w4 b (.slice (some ⟨g, 0, none⟩) (s.length + 1) cap) (gs ++ [w.heap.size + 1]) (s ++ [⟨true, List.replicate k c0⟩]) :=
    hM.ch hcell (hres b (.inl rfl)) (fun x hx => by cases hx; exact hres g (.inr (.inl rfl))) (fun x hx => hres x (.inr (.inr hx)))
  have hsz4 : w3.heap.size ≤ w4.heap.size := by simpa using hcell.size
  have hgl : g < w3.heap.size := row_lt hown rfl
  have hsW : W.heap.size ≤ w3.heap.size := hgrow.size
  refine ⟨rfl, ⟨_, _, hM4, .inl hO.b, ?_, ?_⟩, ?_⟩
  · intro x hx
    have hx : g = x := by simpa [Value.ownBlock] using hx
    subst hx
    rcases hg with hg | hg
    · exact .inl (hO.v g hg)
    · exact .inr ⟨by omega, by omega⟩
  · intro x hx
    rcases List.mem_append.1 hx with hx | hx
    · exact .inl (hO.gs x hx)
    · rw [List.mem_singleton] at hx
      exact .inr ⟨by omega, by omega⟩
  · have h1 : Ch O w w3 := (Ch.of_below hb).trans (Ch.of_grown (O := fun x => v.ownBlock = some x) hgrow (fun k hk => hk)) (fun i _ hi => hO.v i hi)
    exact ((h1.set ⟨b, 0, none⟩ (.inl hO.b) _).set ⟨b, 1, none⟩ (.inl hO.b) _).trans hset (fun i hi hk => by omega)

set_option maxRecDepth 100000 in
set_option maxHeartbeats 4000000 in
theorem alloc_any {w : World} {b : Nat} {s : MS} {O : Nat → Prop} (h0 : MemAt w b s O) (n : Int) :
    Calls Try.prog 12 #[.pointer (some ⟨b, 0, none⟩), .int .i64 n] w (MPost b (allocS s n) (.tuple #[vV (allocV s n), .bool (allocOK s n)]) O w) := by
  obtain ⟨v, gs, h, hO⟩ := h0.open
  clear h0
  obtain ⟨A, cap, rfl, f0, f1, hc1, hc2, hle, hlt⟩ := h.facts
  have hm := h.most
  have hbl : Below w.heap.size w (w.alloc (.cells #[.int .i64 0, .int .i64 0, .int .i64 0] 34)) := (Below.refl w.heap.size w).alloc (Nat.le_refl _) _
  have H1 := Lib.hid (h.below hbl)
  have HBL := Lib.hid hbl
  have HO := Lib.hid hO
  have H := Lib.hid h
  clear hbl hO h
  by_cases h1 : n < 0
  · have hd : decide (n < 0) = true := by simpa using h1
    have HR := Lib.hid (allocOK_no (s := s) (.inl h1))
    go_enter Try.func12, Try.ntmps12
    go_wp2
    refine bodyPost_ret (v := .tuple #[vV v0, .bool false]) (by simp [results, Try.results12, go_sem, vV, v0]) rfl ?_
    rw [HR.out, (allocS_no HR.out).1, (allocS_no HR.out).2]
    exact MPost.keep HO.out H1.out HBL.out rfl rfl
  · have hd : decide (n < 0) = false := by simpa using h1
    by_cases h2 : 256 < n
    · have hd2 : decide (256 < n) = true := by simpa using h2
      have HR := Lib.hid (allocOK_no (s := s) (.inr (.inl h2)))
      go_enter Try.func12, Try.ntmps12
      go_wp2
      refine bodyPost_ret (v := .tuple #[vV v0, .bool false]) (by simp [results, Try.results12, go_sem, vV, v0]) rfl ?_
      rw [HR.out, (allocS_no HR.out).1, (allocS_no HR.out).2]
      exact MPost.keep HO.out H1.out HBL.out rfl rfl
    · have hd2 : decide (256 < n) = false := by simpa using h2
      obtain ⟨k, rfl⟩ : ∃ k : Nat, n = (k : Int) := ⟨n.toNat, by omega⟩
      by_cases h3 : 4096 < (usedS s : Int) + (k : Int) + 1
      · have hd3 : decide (4096 < (usedS s : Int) + (k : Int) + 1) = true := by simpa using h3
        have HR := Lib.hid (allocOK_no (s := s) (.inr (.inr h3)))
        generalize usedS s = U at *
        go_enter Try.func12, Try.ntmps12
        go_wp2
        refine bodyPost_ret (v := .tuple #[vV v0, .bool false]) (by simp [results, Try.results12, go_sem, vV, v0]) rfl ?_
        rw [HR.out, (allocS_no HR.out).1, (allocS_no HR.out).2]
        exact MPost.keep HO.out H1.out HBL.out rfl rfl
      · have hd3 : decide (4096 < (usedS s : Int) + (k : Int) + 1) = false := by simpa using h3
        have HR := Lib.hid (allocOK_yes (s := s) (by omega) (by omega) (by omega : (usedS s : Int) + (k : Int) + 1 ≤ 4096))
        have hk : k ≤ 256 := by omega
        have hu : usedS s + k + 1 ≤ 4096 := by omega
        have HU := Lib.hid (show ((usedS s : Nat) : Int) + ((k : Int) + 1) = (usedS s : Int) + k + 1 by omega)
        have hmk := run_make_cells k (by omega)
        obtain ⟨i0, hi, hz0, hz1, hz2⟩ := info_parts Try.infoBlock
        have hbW := Lib.hid (allocW_below w k)
        have HW := Lib.hid (H.out.below hbW.out)
        have HB1 := Lib.hid (allocW_cells w k)
        have HB0 := Lib.hid (allocW_res w k)
        have HNW := Lib.hid (allocW_news w k)
        have a1 := (H1.out.blk.cell 0)
        have a2 := ((H1.out.blk.alloc (.cells (cRow (List.replicate k c0)).toArray 82)).cell 0)
        have a3 := HW.out.blk.cell 0
        simp only [List.getElem?_cons_zero] at a1 a2 a3
        unfold allocW at a3
        have hWs := Lib.hid (show (allocW w k).heap.size = w.heap.size + 1 + 1 + 1 by simp)
        go_enter Try.func12, Try.ntmps12
        go_wp2
        go_region_law (refine step_append_lies _ rfl (.tmp 31) (.tmp 35) 57 rfl 0 75 i0 _ 2 32 Try.underlying57 hi hz0 hz1 hz2 rfl (by decide) _ _ _ rfl (own_drew HW.out.row) ⟨w.heap.size + 1 + 1, 0, none⟩ 1 1 (bCells ⟨true, List.replicate k c0⟩ (w.heap.size + 1)) rfl rfl HNW.out (bCells_one _ _) (by decide) (by unfold maxLen; omega) (by omega) (Nat.zero_le _) _ rfl ?_; intro g cap' w3 hown3 hgrow3 hg3 hgl3; have HG3 := Lib.hid (show (allocW w k).grownBy w3 (Value.slice A s.length cap).ownBlock from grown_drew hgrow3); have HO3 := Lib.hid hown3; have HR3 := Lib.hid (show (Value.slice A s.length cap).ownBlock = some g ∨ g = (allocW w k).heap.size from hg3); have hbb := HW.out.blk.same (HG3.out.block b (by rw [hWs.out]; omega) (fun e => (HW.out.nv b e.symm).1 rfl)); have hb0 := HB0.out.same (HG3.out.block w.heap.size (by rw [hWs.out]; omega) (fun e => by have := row_lt H.out.row e.symm; omega)); have HBB := Lib.hid hbb; have HB03 := Lib.hid hb0; have x0 := hbb.cell 0; have x1 := hbb.cell 1; have y0 := hb0.cell 0; have y1 := hb0.cell 1; have y2 := hb0.cell 2; have z0 := hbb.frozen 0; have z1 := hbb.frozen 1; have u0 := hb0.frozen 0; have u1 := hb0.frozen 1; have u2 := hb0.frozen 2; have l1 := hbb.lt; have l2 := hb0.lt; simp only [List.getElem?_cons_zero, List.getElem?_cons_succ] at x0 x1 y0 y1 y2; clear hbb hb0 hown3 hgrow3 hg3)
        all_goals
          clear a1 a2 a3 f0 f1
          go_wp2
          refine bodyPost_ret (v := .tuple #[vV ⟨2, 0, (s.length : Int) + 1⟩, .bool true]) (by simp [results, Try.results12, go_sem, vV, y0, y1, y2]) rfl ?_
          rw [HR.out, (allocS_yes HR.out).1, (allocS_yes HR.out).2]
          have hset := three_sets (w := w) (w2 := (w3.setCell ⟨b, 0, none⟩ (.slice (some ⟨g, 0, none⟩) (s.length + 1) cap')).setCell ⟨b, 1, none⟩ (.int .i64 ((usedS s : Int) + ((k : Int) + 1)))) (n := w.heap.size) (Nat.le_refl _)
          have hM := H.out.alloc hbW.out HB1.out (by omega) HO3.out HG3.out HR3.out hu ((usedS s : Int) + ((k : Int) + 1)) (by omega)
          have hset2 := three_sets2 (w2 := (w3.setCell ⟨b, 0, none⟩ (.slice (some ⟨g, 0, none⟩) (s.length + 1) cap')).setCell ⟨b, 1, none⟩ (.int .i64 ((usedS s : Int) + ((k : Int) + 1)))) (n := w.heap.size)
          ((with_reducible refine alloc_done HO.out H.out hbW.out HG3.out HO3.out HR3.out hWs.out hM ?_ ?_ ?_))
          · with_reducible exact hset _ _ _
          · exact alloc_res HO.out H.out HR3.out hWs.out
          · with_reducible exact hset2 _ _ _

end Go.Proofs.Ytnjndggdnmboeaa
