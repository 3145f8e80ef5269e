/- The contract of lychgateref06.Alloc: the walk. -/
import Derived.Test.YtnjndggdnmboeaaMRefMid
import Derived.Test.YtnjndggdnmboeaaMAlloc2
import Derived.Test.YtnjndggdnmboeaaMRows
import Derived.Deep.DeepCutAuto
import Derived.Deep.RegionWith
namespace Go.Proofs.Ytnjndggdnmboeaa
open Go.RowKit

theorem AMid.start {w : World} {b : Nat} {vl vs vc : Value} {s : MS} {O : Nat → Prop} (h : RefIs w b vl vs vc s) (hO : OwnR b vl vs vc O) (u : Int) :
    AMid w O b w.heap.size u ((w.setCell ⟨b, 3, none⟩ (.int .i64 u)).alloc (.cells #[.int .i64 0, .int .i64 0, .int .i64 0] 61)) vl vs vc s.length s.length (rcs 0 s).length (lRow s) (zRowS s) (rRow (rcs 0 s)) := by
  have hbl := h.blk.lt
  have hsz : ∀ (i : Nat) (v : Value), (w.setCell ⟨b, i, none⟩ v).heap.size = w.heap.size := fun i v => by simp [World.setCell]
  have hch : Ch O w ((w.setCell ⟨b, 3, none⟩ (.int .i64 u)).alloc (.cells #[.int .i64 0, .int .i64 0, .int .i64 0] 61)) := ((Ch.refl O w).set ⟨b, 3, none⟩ (.inl hO.b) _).alloc _
  have far : ∀ g, g < w.heap.size → g ≠ b → ((w.setCell ⟨b, 3, none⟩ (.int .i64 u)).alloc (.cells #[.int .i64 0, .int .i64 0, .int .i64 0] 61)).heap[g]? = w.heap[g]? := fun g hg hgb =>
    ((Below.refl _ _).alloc (Nat.le_refl _) _).block g (by rw [hsz]; exact hg) |>.trans (Below.heap_setCell w ⟨b, 3, none⟩ _ g hgb)
  have gr : ∀ g, O g → grow O w ((w.setCell ⟨b, 3, none⟩ (.int .i64 u)).alloc (.cells #[.int .i64 0, .int .i64 0, .int .i64 0] 61)) g := fun g hg => .inl hg
  refine ⟨?_, row_same h.live fun g hg => far g (row_lt h.live hg) (h.nl g hg).1, row_same h.sizes fun g hg => far g (row_lt h.sizes hg) (h.ns g hg).1, row_same h.cells fun g hg => far g (row_lt h.cells hg) (h.nc g hg).1, ?_, ?_, ?_, ?_, by omega, Nat.le_refl _, hO.b, hch⟩
  · exact (h.blk.put 3 (.int .i64 u)).alloc _
  · intro g hg
    exact ⟨(h.nl g hg).1, by have := row_lt h.live hg; omega, (h.nl g hg).2.1, (h.nl g hg).2.2, gr g (hO.l g hg)⟩
  · intro g hg
    exact ⟨(h.ns g hg).1, by have := row_lt h.sizes hg; omega, (h.ns g hg).2.1, (h.ns g hg).2.2, gr g (hO.s g hg)⟩
  · intro g hg
    exact ⟨(h.nc g hg).1, by have := row_lt h.cells hg; omega, (h.nc g hg).2.1, (h.nc g hg).2.2, gr g (hO.c g hg)⟩
  · have := Blk.new (w.setCell ⟨b, 3, none⟩ (.int .i64 u)) [.int .i64 0, .int .i64 0, .int .i64 0] 61
    rw [hsz] at this
    exact this

theorem Try.infoInt64 : (Try.prog.info? 2).map (fun i => (i.zero, i.size, i.bytes)) = some (some (.int .i64 0), 1, 8) := by kernel_rfl
theorem Try.infoRCell : (Try.prog.info? 72).map (fun i => (i.zero, i.size, i.bytes)) = some (some (.agg #[.int .i64 0, .int .i64 0, .int .i64 0, .int .i64 0, .int .i64 0, .int .i64 0, .bool false]), 7, 56) := by kernel_rfl

theorem new_news (W : World) (cs : List Value) (t : TypeId) : ∀ j u, cs[j]? = some u → (W.alloc (.cells cs.toArray t)).cell? ((⟨W.heap.size, 0, none⟩ : Addr).add j) = some u := by
  intro j u hj
  rw [Addr.add_mid, Nat.zero_add, (Blk.new W cs t).cell j]
  exact hj

theorem AMid.kept {w0 w W w3 : World} {O : Nat → Prop} {b r : Nat} {u : Int} {vl vs vc : Value} {nl ns nc : Nat} {xl xs xc : List Value} (h : AMid w0 O b r u w vl vs vc nl ns nc xl xs xc) (hb : Below w.heap.size w W) {row : Option Nat} (hgrow : W.grownBy w3 row) (hr : row = vl.ownBlock ∨ row = vs.ownBlock ∨ row = vc.ownBlock) :
    w3.cell? ⟨b, 0, none⟩ = some vl ∧ w3.cell? ⟨b, 1, none⟩ = some vs ∧ w3.cell? ⟨b, 2, none⟩ = some vc ∧ w3.frozen? ⟨b, 0, none⟩ = false ∧ w3.frozen? ⟨b, 1, none⟩ = false ∧ w3.frozen? ⟨b, 2, none⟩ = false ∧ b < w3.heap.size := by
  have h1 := h.below hb
  have h2 := h1.blk.same (hgrow.block b h1.blk.lt (by
    intro e
    rcases hr with hr | hr | hr <;> rw [hr] at e
    · exact (h.aL b e.symm).1 rfl
    · exact (h.aS b e.symm).1 rfl
    · exact (h.aC b e.symm).1 rfl))
  exact ⟨h2.cell 0, h2.cell 1, h2.cell 2, h2.frozen 0, h2.frozen 1, h2.frozen 2, h2.lt⟩
theorem one_bool (x : Bool) : ∀ u ∈ [Value.bool x], u.oneCell' = true := by intro u hu; simp at hu; subst hu; rfl
theorem one_int (x : Int) : ∀ u ∈ [Value.int .i64 x], u.oneCell' = true := by intro u hu; simp at hu; subst hu; rfl
theorem one_rcell (e : RC) : ∀ u ∈ rCells e, u.oneCell' = true := by
  intro u hu
  simp only [rCells, List.mem_cons, List.not_mem_nil, or_false] at hu
  rcases hu with rfl | rfl | rfl | rfl | rfl | rfl | rfl <;> rfl

theorem AMid.done {w W w4 : World} {b : Nat} {s : MS} {O : Nat → Prop} {k : Nat} {vl vs vc : Value} {val : Value} (hM : AMid w O b w.heap.size ((usedS s : Int) + k + 1) W vl vs vc (s.length + 1) (s.length + 1) ((rcs 0 s).length + k) (lRow s ++ [.bool true]) (zRowS s ++ [.int .i64 (k : Int)]) (rRow (rcs 0 s ++ newCells (s.length + 1) k))) (hu : usedS s + k + 1 ≤ 4096) (hc : Ch (· = w.heap.size) W w4) :
    RPost b (s ++ [⟨true, List.replicate k c0⟩]) val O w (.returned val) w4 := by
  have hR := hM.toRef rfl hu
  have gm : ∀ g, grow O w W g → grow O w w4 g := fun g hg => grow_more hc.size hg
  refine ⟨rfl, ⟨vl, vs, vc, hR.same (hc.block _ hM.blk.lt (fun e => hM.rb e.symm)) (fun g hg => hc.block _ (row_lt hM.L hg) (hM.aL g hg).2.1) (fun g hg => hc.block _ (row_lt hM.S hg) (hM.aS g hg).2.1) (fun g hg => hc.block _ (row_lt hM.C hg) (hM.aC g hg).2.1), .inl hM.ob, fun g hg => gm g (hM.aL g hg).2.2.2.2, fun g hg => gm g (hM.aS g hg).2.2.2.2, fun g hg => gm g (hM.aC g hg).2.2.2.2⟩, ?_⟩
  exact hM.ch.trans hc (fun i hi e => by have : i = w.heap.size := e; omega)
theorem rRow_new (l : List RC) (n j : Nat) : rRow (l ++ newCells n (j + 1)) = rRow (l ++ newCells n j) ++ rCells ⟨n, j, c0⟩ := by
  rw [newCells_succ, ← List.append_assoc, rRow_append]
  simp [rRow]
theorem newCells_zero (n : Nat) : newCells n 0 = [] := rfl
def AllocRel (w0 : World) (O : Nat → Prop) (b : Nat) (s : MS) (n k : Nat) (W : World) : Prop :=
  ∃ vl vs vc, AMid w0 O b w0.heap.size ((usedS s : Int) + n + 1) W vl vs vc (s.length + 1) (s.length + 1) ((rcs 0 s).length + k) (lRow s ++ [.bool true]) (zRowS s ++ [.int .i64 (n : Int)]) (rRow (rcs 0 s ++ newCells (s.length + 1) k))

set_option maxRecDepth 100000 in
set_option maxHeartbeats 4000000 in
theorem refAlloc_any {w : World} {b : Nat} {s : MS} {O : Nat → Prop} (h0 : RefAt w b s O) (n : Int) :
    Calls Try.prog 19 #[.pointer (some ⟨b, 0, none⟩), .int .i64 n] w (RPost b (allocS s n) (.tuple #[vV (allocV s n), .bool (allocOK s n)]) O w) := by
  obtain ⟨vl, vs, vc, h, hO⟩ := h0.open
  clear h0
  obtain ⟨Al, cl, As, cs, Ac, cc, rfl, rfl, rfl, f0, f1, f2, f3, l1, l2, l3, l4, l5, l6, hle, hcl, hlt⟩ := h.facts
  have hm := h.most
  have hbl : Below w.heap.size w (w.alloc (.cells #[.int .i64 0, .int .i64 0, .int .i64 0] 61)) := (Below.refl w.heap.size w).alloc (Nat.le_refl _) _
  have H1 := Lib.hid (h.below hbl)
  have HBL := Lib.hid hbl
  have HO := Lib.hid hO
  have H := Lib.hid h
  clear hbl hO h
  by_cases h1 : n < 0
  · have hd : decide (n < 0) = true := by simpa using h1
    have HR := Lib.hid (allocOK_no (s := s) (.inl h1))
    go_enter Try.func19, Try.ntmps19
    go_wp2
    refine bodyPost_ret (v := .tuple #[vV v0, .bool false]) (by simp [results, Try.results19, go_sem, vV, v0]) rfl ?_
    exact RPost.mk HO.out H1.out (Ch.of_below HBL.out) (by rw [HR.out, (allocS_no HR.out).2]) (allocS_no HR.out).1
  · have hd : decide (n < 0) = false := by simpa using h1
    by_cases h2 : 256 < n
    · have hd2 : decide (256 < n) = true := by simpa using h2
      have HR := Lib.hid (allocOK_no (s := s) (.inr (.inl h2)))
      go_enter Try.func19, Try.ntmps19
      go_wp2
      refine bodyPost_ret (v := .tuple #[vV v0, .bool false]) (by simp [results, Try.results19, go_sem, vV, v0]) rfl ?_
      exact RPost.mk HO.out H1.out (Ch.of_below HBL.out) (by rw [HR.out, (allocS_no HR.out).2]) (allocS_no HR.out).1
    · have hd2 : decide (256 < n) = false := by simpa using h2
      obtain ⟨k, rfl⟩ : ∃ k : Nat, n = (k : Int) := ⟨n.toNat, by omega⟩
      by_cases h3 : 4096 < (usedS s : Int) + (k : Int) + 1
      · have hd3 : decide (4096 < (usedS s : Int) + (k : Int) + 1) = true := by simpa using h3
        have HR := Lib.hid (allocOK_no (s := s) (.inr (.inr h3)))
        generalize usedS s = U at *
        go_enter Try.func19, Try.ntmps19
        go_wp2
        refine bodyPost_ret (v := .tuple #[vV v0, .bool false]) (by simp [results, Try.results19, go_sem, vV, v0]) rfl ?_
        exact RPost.mk HO.out H1.out (Ch.of_below HBL.out) (by rw [HR.out, (allocS_no HR.out).2]) (allocS_no HR.out).1
      · have hd3 : decide (4096 < (usedS s : Int) + (k : Int) + 1) = false := by simpa using h3
        have HR := Lib.hid (allocOK_yes (s := s) (by omega) (by omega) (by omega : (usedS s : Int) + (k : Int) + 1 ≤ 4096))
        have hk : k ≤ 256 := by omega
        have hu : usedS s + k + 1 ≤ 4096 := by omega
        have hul : s.length ≤ usedS s := usedS_len s
        have hcu := rcs_length 0 s
        have HST := Lib.hid (AMid.start H.out HO.out ((usedS s : Int) + k + 1))
        obtain ⟨i1, hi1, hz10, hz11, hz12⟩ := info_parts Try.infoBool
        obtain ⟨i2, hi2, hz20, hz21, hz22⟩ := info_parts Try.infoInt64
        obtain ⟨i3, hi3, hz30, hz31, hz32⟩ := info_parts Try.infoRCell
        have y3 := H.out.blk.frozen 3
        clear H1
        go_enter Try.func19, Try.ntmps19
        go_upto_region 3 with fail
        go_cut [] (fun W => AMid w O b w.heap.size ((usedS s : Int) + k + 1) W (.slice Al s.length cl) (.slice As s.length cs) (.slice Ac (rcs 0 s).length cc) s.length s.length (rcs 0 s).length (lRow s) (zRowS s) (rRow (rcs 0 s)))
        case first =>
          go_wp2_with fail
          go_meet
          exact HST.out
        case rest =>
          rename World => W1
          have HC := Lib.hid hcut
          clear hcut HST
          obtain ⟨c0, c1, c2, c3, q0, q1, q2, q3, hbl⟩ := HC.out.facts
          go_upto_region 4 with fail
          go_cut [] (fun W => ∃ g cap, AMid w O b w.heap.size ((usedS s : Int) + k + 1) W (.slice (some ⟨g, 0, none⟩) (s.length + 1) cap) (.slice As s.length cs) (.slice Ac (rcs 0 s).length cc) (s.length + 1) s.length (rcs 0 s).length (lRow s ++ [.bool true]) (zRowS s) (rRow (rcs 0 s)))
          case first =>
            go_wp2_with (at_builtin; refine wpList_append_lies _ rfl (.tmp 38) (.tmp 39) 26 rfl 0 4 i1 _ 1 1 Try.underlying26 hi1 hz10 hz11 hz12 rfl (by decide) _ _ _ rfl ((HC.out.below ((Below.refl _ _).alloc (Nat.le_refl _) _)).L) ⟨W1.heap.size, 0, none⟩ 1 1 [.bool true] rfl rfl (new_news W1 [.bool true] _) (one_bool true) (by decide) (by unfold maxLen; omega) (by omega) (Nat.zero_le _) _ rfl ?_)
            intro g cap w3 hown hgrow hg hgl
            obtain ⟨d0, d1, d2, e0, e1, e2, hbl3⟩ := HC.out.kept ((Below.refl _ _).alloc (Nat.le_refl _) _) hgrow (.inl rfl)
            have HM := Lib.hid (HC.out.stepL ((Below.refl _ _).alloc (Nat.le_refl _) _) hown hgrow (hg.imp id (fun e => by rw [World.size_alloc]; exact e)))
            clear hown hgrow hg
            go_wp2_with fail
            go_meet
            exact ⟨g, cap, HM.out⟩
          case rest =>
            rename World => W2
            obtain ⟨gl, capl, hc2⟩ := hcut
            clear HC c0 c1 c2 c3 q0 q1 q2 q3 hbl
            have HC := Lib.hid hc2
            clear hc2
            obtain ⟨c0, c1, c2, c3, q0, q1, q2, q3, hbl⟩ := HC.out.facts
            go_upto_region 5 with fail
            go_cut [] (fun W => ∃ g cap, AMid w O b w.heap.size ((usedS s : Int) + k + 1) W (.slice (some ⟨gl, 0, none⟩) (s.length + 1) capl) (.slice (some ⟨g, 0, none⟩) (s.length + 1) cap) (.slice Ac (rcs 0 s).length cc) (s.length + 1) (s.length + 1) (rcs 0 s).length (lRow s ++ [.bool true]) (zRowS s ++ [.int .i64 (k : Int)]) (rRow (rcs 0 s)))
            case first =>
              go_wp2_with (at_builtin; refine wpList_append_lies _ rfl (.tmp 47) (.tmp 49) 27 rfl 0 2 i2 _ 1 8 Try.underlying27 hi2 hz20 hz21 hz22 rfl (by decide) _ _ _ rfl ((HC.out.below ((Below.refl _ _).alloc (Nat.le_refl _) _)).S) ⟨W2.heap.size, 0, none⟩ 1 1 [.int .i64 (k : Int)] rfl rfl (new_news W2 [.int .i64 (k : Int)] _) (one_int k) (by decide) (by unfold maxLen; omega) (by omega) (Nat.zero_le _) _ rfl ?_)
              intro g cap w3 hown hgrow hg hgl
              obtain ⟨d0, d1, d2, e0, e1, e2, hbl3⟩ := HC.out.kept ((Below.refl _ _).alloc (Nat.le_refl _) _) hgrow (.inr (.inl rfl))
              have HM := Lib.hid (HC.out.stepS ((Below.refl _ _).alloc (Nat.le_refl _) _) hown hgrow (hg.imp id (fun e => by rw [World.size_alloc]; exact e)))
              clear hown hgrow hg
              go_wp2_with fail
              go_meet
              exact ⟨g, cap, HM.out⟩
            case rest =>
              rename World => W3
              obtain ⟨gs, caps, hc3⟩ := hcut
              clear HC c0 c1 c2 c3 q0 q1 q2 q3 hbl f0 f1 f2 f3 y3
              have HC := Lib.hid (show AllocRel w O b s k 0 W3 from ⟨_, _, _, by rw [newCells_zero, List.append_nil]; exact hc3⟩)
              clear hc3
              go_wp2
              go_loopw [6] (fun i wr => ∃ j : Nat, j ≤ k ∧ i = .int .i64 j ∧ AllocRel w O b s k j wr) (fun i _ => k - (intOf i).toNat)
              case atStart => exact ⟨0, by omega, rfl, HC.out⟩
              case round =>
                obtain ⟨j, hj, rfl, hrel⟩ := hrel
                obtain ⟨vl, vs, vc, hM⟩ := hrel
                obtain ⟨A1, cl1, rfl, l1', l2'⟩ := row_form hM.L
                obtain ⟨A2, cl2, rfl, l3', l4'⟩ := row_form hM.S
                obtain ⟨A3, cl3, rfl, l5', l6'⟩ := row_form hM.C
                obtain ⟨m0, m1, m2, m3, q0, q1, q2, q3, hbl⟩ := hM.facts
                have HM := Lib.hid hM
                clear hM
                by_cases hjk : j < k
                · have hjk2 : (j : Int) < (k : Int) := by omega
                  have HT := Lib.hid (HM.out.below ((Below.refl wr.heap.size wr).alloc (Nat.le_refl _) (.cells #[.int .i64 ((s.length : Int) + 1), .int .i64 (j : Int), .int .i64 0, .int .i64 0, .int .i64 0, .int .i64 0, .bool false] 72)))
                  have HNW := Lib.hid (new_news wr (rCells ⟨s.length + 1, j, c0⟩) 72)
                  have u2 := HT.out.blk.cell 2
                  have u0 := HT.out.blk.cell 0
                  have uf := HT.out.blk.frozen 2
                  simp only [List.getElem?_cons_zero, List.getElem?_cons_succ] at u0 u2
                  clear m3 q0 q1 q3
                  go_wp2_with fail
                  go_region_law (refine step_append_lies _ rfl (.tmp 62) (.tmp 70) 28 rfl 0 72 i3 _ 7 56 Try.underlying28 hi3 hz30 hz31 hz32 rfl (by decide) _ _ _ rfl (own_drew HT.out.C) ⟨wr.heap.size, 0, none⟩ 1 1 (rCells ⟨s.length + 1, j, c0⟩) rfl rfl HNW.out (one_rcell _) (by decide) (by unfold maxLen; omega) (by omega) (Nat.zero_le _) _ rfl ?_; intro g cap' w3 hown3 hgrow3 hg3 hgl3; have HM3 := Lib.hid (HM.out.stepC ((Below.refl wr.heap.size wr).alloc (Nat.le_refl _) (.cells #[.int .i64 ((s.length : Int) + 1), .int .i64 (j : Int), .int .i64 0, .int .i64 0, .int .i64 0, .int .i64 0, .bool false] 72)) hown3 (grown_drew hgrow3) hg3); obtain ⟨k0, k1, k2, z0, z1, z2, hbl3⟩ := HM.out.kept ((Below.refl wr.heap.size wr).alloc (Nat.le_refl _) (.cells #[.int .i64 ((s.length : Int) + 1), .int .i64 (j : Int), .int .i64 0, .int .i64 0, .int .i64 0, .int .i64 0, .bool false] 72)) (grown_drew hgrow3) (.inr (.inr rfl)); clear hown3 hgrow3 hg3)
                  all_goals
                    go_wp2_with fail
                    go_roundw
                    case rel => exact ⟨j + 1, by omega, by go_num, _, _, _, by rw [rRow_new]; exact HM3.out⟩
                    case measure => simp [intOf]; omega
                · have hjk2 : ¬ (j : Int) < (k : Int) := by omega
                  obtain rfl : j = k := by omega
                  have hres := HM.out.resFacts
                  obtain ⟨r0, r1, r2, t0, t1, t2, hrl⟩ := hres
                  have hrb := HM.out.rb
                  have HSET := Lib.hid (three_sets2 (w2 := wr) (n := w.heap.size))
                  go_wp2
                  refine bodyPost_ret (v := .tuple #[vV ⟨2, 0, (s.length : Int) + 1⟩, .bool true]) (by simp [results, Try.results19, go_sem, vV, r0, r1, r2]) rfl ?_
                  rw [HR.out, (allocS_yes HR.out).1, (allocS_yes HR.out).2]
                  ((with_reducible refine HM.out.done hu ?_))
                  with_reducible exact HSET.out _ _ _

end Go.Proofs.Ytnjndggdnmboeaa
