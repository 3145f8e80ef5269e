/- The contracts of mem.Memory's Free and Used, and of mem.New. -/
import Derived.Test.YtnjndggdnmboeaaMOps3
namespace Go.Proofs.Ytnjndggdnmboeaa
open Go.RowKit

theorem freeW_B {s : MS} {p : MV} {c : Int} (h : whyB s p = c) (hc : c ≠ 0) : freeW s p = c := by unfold freeW; rw [if_pos (by rw [h]; exact hc), h]
theorem freeW_in {s : MS} {p : MV} (h : whyB s p = 0) (hn : p.n ≠ 0) : freeW s p = 5 := by unfold freeW; rw [if_neg (by omega), if_pos hn]
theorem freeW_race {s : MS} {p : MV} (h : whyB s p = 0) (hn : p.n = 0) (hb : (bkOf s p).cells.any busyC = true) : freeW s p = 6 := by unfold freeW; rw [if_neg (by omega), if_neg (by omega), if_pos hb]
theorem freeW_fine {s : MS} {p : MV} (h : whyB s p = 0) (hn : p.n = 0) (hb : (bkOf s p).cells.any busyC = false) : freeW s p = 0 := by unfold freeW; rw [if_neg (by omega), if_neg (by omega), if_neg (by simp [hb])]
theorem freeS_no {s : MS} {p : MV} {c : Int} (h : freeW s p = c) (hc : c ≠ 0) : freeS s p = s := by unfold freeS; rw [if_neg (by rw [h]; exact hc)]
theorem freeS_yes {s : MS} {p : MV} (h : freeW s p = 0) : freeS s p = s.set (at1 p) ⟨false, (bkOf s p).cells⟩ := by unfold freeS; rw [if_pos h]

theorem MemIs.free {w : World} {b gv cap k : Nat} {gs : List Nat} {s : MS} (h : MemIs w b (.slice (some ⟨gv, 0, none⟩) s.length cap) gs s) {a : MB} (ha : s[k]? = some a) :
    MemIs (w.setCell ⟨gv, k * 2, none⟩ (.bool false)) b (.slice (some ⟨gv, 0, none⟩) s.length cap) gs (s.set k ⟨false, a.cells⟩) := by
  have hn := h.nv gv rfl
  have e1 : usedS (s.set k ⟨false, a.cells⟩) = usedS s := usedS_set _ _ _ fun x hx => by rw [ha] at hx; cases hx; rfl
  have hne : ∀ g ∈ gs, g ≠ gv := fun g hg e => hn.2 (e ▸ hg)
  refine ⟨?_, ?_, by simpa using h.len, ?_, h.nod, h.nb, h.nv, by rw [e1]; exact h.most⟩
  · rw [e1]
    exact h.blk.far (by show b ≠ gv; exact fun e => hn.1 e.symm) _
  · have := (h.row.stored (k * 2) (.bool false)).1
    rw [bRow_live ha h.len] at this
    rw [List.length_set]
    exact this
  · intro i x g hx hg
    have hk : k < s.length := (List.getElem?_eq_some_iff.1 ha).1
    have hm := hne g (List.mem_of_getElem? hg)
    by_cases hi : i = k
    · subst hi
      rw [List.getElem?_set_self hk] at hx
      cases hx
      exact (h.cells i a g ha hg).far (by show g ≠ gv; exact hm) _
    · rw [List.getElem?_set_ne (Ne.symm hi)] at hx
      exact (h.cells i x g hx hg).far (by show g ≠ gv; exact hm) _

set_option maxRecDepth 100000 in
set_option maxHeartbeats 4000000 in
theorem free_any {w : World} {b : Nat} {s : MS} {O : Nat → Prop} (h0 : MemAt w b s O) (p : MV) :
    Calls Try.prog 15 #[.pointer (some ⟨b, 0, none⟩), .agg #[.int .i64 p.kind, .int .i64 p.n, .int .i64 p.block]] w (MPost b (freeS s p) (.int .i64 (freeW s p)) O w) := by
  obtain ⟨v, gs, h, hO⟩ := h0.open
  clear h0
  have H := Lib.hid (h.below ((Below.refl w.heap.size w).alloc (Nat.le_refl _) (.cells #[.int .i64 p.kind, .int .i64 p.n, .int .i64 p.block] 34)))
  clear h
  have HO := Lib.hid hO
  clear hO
  go_enter Try.func15, Try.ntmps15
  go_wp2_with fail
  ((with_reducible refine (blockOf_any H.out p).mono ?_); rintro e w1 ⟨A, rfl, hA, hb1⟩)
  have HA := Lib.hid hA
  have hbelow := Lib.hid (((Below.refl w.heap.size w).alloc (Nat.le_refl _) (.cells #[.int .i64 p.kind, .int .i64 p.n, .int .i64 p.block] 34)).trans (hb1.mono (by simp)))
  have H1 := Lib.hid (H.out.below hb1)
  have hz1 := hb1.size
  rw [World.size_alloc] at hz1
  have y1 : w1.cell? ⟨w.heap.size, 1, none⟩ = some (.int .i64 p.n) := by
    rw [(bcell hb1).1 w.heap.size 1 (by simp)]
    exact (Blk.new w [.int .i64 p.kind, .int .i64 p.n, .int .i64 p.block] _).cell 1
  clear hA hb1
  by_cases h0 : whyB s p = 0
  · obtain ⟨gv, cap, rfl, rfl⟩ := HA.out h0
    obtain ⟨hk, k, hkb, hk1, hks, hbk, hlive⟩ := whyB_ok h0
    obtain ⟨gv', cap', g, a, hv, hg, ha, c0, c1, hal, hB, hgl, hfz⟩ := H1.out.block hks
    simp only [Value.slice.injEq, Option.some.injEq, Addr.mk.injEq, and_true, true_and] at hv
    obtain ⟨rfl, rfl⟩ := hv
    obtain rfl : a = bkOf s p := Option.some.inj (ha.symm.trans hbk)
    have z0 := hfz (k * 2)
    clear hfz
    rw [hk1]
    have H0 := Lib.hid h0
    have HK1 := Lib.hid hk1
    have HA := Lib.hid ha
    have HB := Lib.hid hB
    rw [h0]
    clear h0 hk hkb hk1 hbk hlive ha hB hg
    by_cases hn : p.n = 0
    · have HR0 := fun hb => freeW_race H0.out hn hb
      have HR1 := fun hb => freeW_fine H0.out hn hb
      have HR0 := Lib.hid HR0
      have HR1 := Lib.hid HR1
      rw [hn] at y1
      clear hn
      go_wp2_with fail
      ((with_reducible refine (contains_any HB.out hal).mono ?_); rintro e w2 ⟨rfl, hb2⟩)
      have hbelow2 := Lib.hid (hbelow.out.trans (hb2.mono hbelow.out.size))
      have H2 := Lib.hid (H1.out.below hb2)
      have y0 := (bcell hb2).1 gv (k * 2) hgl
      have z0' := (bcell hb2).2 gv (k * 2) hgl
      rw [c0] at y0
      rw [z0] at z0'
      have hgl2 : gv < w2.heap.size := Nat.lt_of_lt_of_le hgl hb2.size
      clear hb2 c0 c1 z0 y1
      cases hz : (bkOf s p).cells.any busyC
      · have HR := Lib.hid (HR1.out hz)
        clear hz
        go_wp2
        go_ret
        rw [HR.out, freeS_yes HR.out, HK1.out]
        refine MPost.mk HO.out (by simpa using H2.out.free HA.out) ((Ch.of_below hbelow2.out).set _ (.inl (HO.out.v gv rfl)) _) rfl
      · have HR := Lib.hid (HR0.out hz)
        clear hz
        go_wp2
        go_ret
        rw [HR.out, freeS_no HR.out (by decide)]
        exact MPost.keep HO.out H2.out hbelow2.out rfl rfl
    · have hd : (p.n != 0) = true := by simpa using hn
      have HR := Lib.hid (freeW_in H0.out hn)
      clear hn
      go_wp2
      go_ret
      rw [HR.out, freeS_no HR.out (by decide)]
      exact MPost.keep HO.out H1.out hbelow.out rfl rfl
  · have hd : (whyB s p != 0) = true := by simpa using h0
    have HR := Lib.hid (freeW_B rfl h0)
    have HS := Lib.hid (freeS_no HR.out h0)
    clear h0
    generalize whyB s p = c at *
    go_wp2
    go_ret
    rw [HS.out, HR.out]
    exact MPost.keep HO.out H1.out hbelow.out rfl rfl

set_option maxHeartbeats 1000000 in
theorem used_any {w : World} {b : Nat} {s : MS} {O : Nat → Prop} (h0 : MemAt w b s O) : Calls Try.prog 11 #[.pointer (some ⟨b, 0, none⟩)] w fun e w' => e = .returned (.int .i64 (usedS s)) ∧ w = w' := by
  obtain ⟨v, gs, h, _⟩ := h0.open
  obtain ⟨A, cap, _, _, f1, _, _, _, hlt⟩ := h.facts
  clear h h0
  generalize ((usedS s : Nat) : Int) = U at *
  go_enter Try.func11, Try.ntmps11
  go_wp2
  go_ret
  exact ⟨rfl, rfl⟩

theorem MemIs.zero (w : World) : MemIs (w.alloc (.cells #[.slice none 0 0, .int .i64 0] 59)) w.heap.size (.slice none 0 0) [] [] :=
  ⟨Blk.new w [.slice none 0 0, .int .i64 0] _, World.ownsRow_nil _ _ _ _, rfl, (fun _ _ _ ha => by simp at ha), List.nodup_nil, (by simp), (fun _ hg => by cases hg), (by simp [usedS])⟩

set_option maxHeartbeats 1000000 in
theorem new_any (w : World) : Calls Try.prog 6 #[] w fun e w' => e = .returned (.pointer (some ⟨w.heap.size, 0, none⟩)) ∧ MemAt w' w.heap.size [] (grow (fun _ => False) w w') ∧ Below w.heap.size w w' := by
  go_enter Try.func6, Try.ntmps6
  go_wp2
  go_ret
  exact ⟨rfl, ⟨_, _, MemIs.zero w, .inr ⟨Nat.le_refl _, by simp⟩, (fun _ hg => by cases hg), by simp⟩, (Below.refl _ _).alloc (Nat.le_refl _) _⟩

end Go.Proofs.Ytnjndggdnmboeaa
