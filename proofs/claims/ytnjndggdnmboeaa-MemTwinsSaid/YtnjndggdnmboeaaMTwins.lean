/- MemTwins holds: two memories, used in turns, have nothing to do with one another; a nil one refuses; what is told is new memory. No conditions. -/
import Derived.Test.YtnjndggdnmboeaaMClose3
import Derived.Test.YtnjndggdnmboeaaMTwin
import Derived.Test.YtnjndggdnmboeaaMWakes
namespace Go.Proofs.Ytnjndggdnmboeaa
open Go.ChangeShapes Go.WideShapes Go.ChangeAt Go.RowKit

theorem rd_nil (N : Int) : Rd [] N := by intro b hb; simp at hb
theorem nilW2 : nilW ⟨2, 0, 1⟩ = 2 := rfl
theorem nilW1 : nilW ⟨0, 0, 0⟩ = 1 := rfl

theorem cell_put {W : World} {g o x i : Nat} {v u : Value} (h : W.cell? ⟨g, o, none⟩ = some v) (hx : g ≠ x) : (W.setCell ⟨x, i, none⟩ u).cell? ⟨g, o, none⟩ = some v :=
  (World.cell?_of_block (a := ⟨g, o, none⟩) (Below.heap_setCell W ⟨x, i, none⟩ u g hx)).trans h
theorem heldT_put {W : World} {gb gp n x i : Nat} {u : Value} {q : G3} (h : W.cell? ⟨gb, 1, none⟩ = some (.slice (some ⟨q.c, 0, none⟩) n n) ∧ W.cell? ⟨gb, 2, none⟩ = some (.slice (some ⟨q.r, 0, none⟩) n n) ∧ W.cell? ⟨gb, 3, none⟩ = some (.slice (some ⟨q.w, 0, none⟩) n n) ∧ W.cell? ⟨gp, 0, none⟩ = some (.int .i64 2) ∧ W.cell? ⟨gp, 1, none⟩ = some (.int .i64 0) ∧ W.cell? ⟨gp, 2, none⟩ = some (.int .i64 1)) (h1 : gb ≠ x) (h2 : gp ≠ x) : (W.setCell ⟨x, i, none⟩ u).cell? ⟨gb, 1, none⟩ = some (.slice (some ⟨q.c, 0, none⟩) n n) ∧ (W.setCell ⟨x, i, none⟩ u).cell? ⟨gb, 2, none⟩ = some (.slice (some ⟨q.r, 0, none⟩) n n) ∧ (W.setCell ⟨x, i, none⟩ u).cell? ⟨gb, 3, none⟩ = some (.slice (some ⟨q.w, 0, none⟩) n n) ∧ (W.setCell ⟨x, i, none⟩ u).cell? ⟨gp, 0, none⟩ = some (.int .i64 2) ∧ (W.setCell ⟨x, i, none⟩ u).cell? ⟨gp, 1, none⟩ = some (.int .i64 0) ∧ (W.setCell ⟨x, i, none⟩ u).cell? ⟨gp, 2, none⟩ = some (.int .i64 1) := by
  obtain ⟨a, b, c, d, e, f⟩ := h
  exact ⟨cell_put a h1, cell_put b h1, cell_put c h1, cell_put d h2, cell_put e h2, cell_put f h2⟩
theorem heldT_drew {W : World} {gb gp n : Nat} {q : G3} (h : W.cell? ⟨gb, 1, none⟩ = some (.slice (some ⟨q.c, 0, none⟩) n n) ∧ W.cell? ⟨gb, 2, none⟩ = some (.slice (some ⟨q.r, 0, none⟩) n n) ∧ W.cell? ⟨gb, 3, none⟩ = some (.slice (some ⟨q.w, 0, none⟩) n n) ∧ W.cell? ⟨gp, 0, none⟩ = some (.int .i64 2) ∧ W.cell? ⟨gp, 1, none⟩ = some (.int .i64 0) ∧ W.cell? ⟨gp, 2, none⟩ = some (.int .i64 1)) : W.drew.cell? ⟨gb, 1, none⟩ = some (.slice (some ⟨q.c, 0, none⟩) n n) ∧ W.drew.cell? ⟨gb, 2, none⟩ = some (.slice (some ⟨q.r, 0, none⟩) n n) ∧ W.drew.cell? ⟨gb, 3, none⟩ = some (.slice (some ⟨q.w, 0, none⟩) n n) ∧ W.drew.cell? ⟨gp, 0, none⟩ = some (.int .i64 2) ∧ W.drew.cell? ⟨gp, 1, none⟩ = some (.int .i64 0) ∧ W.drew.cell? ⟨gp, 2, none⟩ = some (.int .i64 1) := h
def TwRel (W0 : World) (g : Nat) (s : MS) (qs : List G3) (gb : Nat) (cs : List Value) (W : World) : Prop := RowsIs W W0.heap.size g s qs ∧ Below W0.heap.size W0 W ∧ Blk W gb cs 55
theorem TwRel.put {W0 W : World} {g gb : Nat} {s : MS} {qs : List G3} {cs : List Value} (h : TwRel W0 g s qs gb cs W) {x : Nat} (h1 : g ≠ x) (h2 : W0.heap.size ≤ x) (h3 : gb ≠ x) {i : Nat} {u : Value} : TwRel W0 g s qs gb cs (W.setCell ⟨x, i, none⟩ u) :=
  ⟨h.1.put h1 i u, h.2.1.setCell (by show W0.heap.size ≤ x; exact h2) u, h.2.2.far (by show gb ≠ x; exact h3) u⟩
theorem TwRel.drew {W0 W : World} {g gb : Nat} {s : MS} {qs : List G3} {cs : List Value} (h : TwRel W0 g s qs gb cs W) : TwRel W0 g s qs gb cs W.drew :=
  ⟨h.1.below ((Below.refl _ _).drew), h.2.1.trans (((Below.refl W.heap.size W).drew).mono h.2.1.size), h.2.2.below ((Below.refl W.heap.size W).drew) h.2.2.lt⟩

set_option maxRecDepth 100000 in
set_option maxHeartbeats 8000000 in
theorem memTwins_walk (A : Option Addr) (cap : Nat) (l : List MO) (A1 : Option Addr) (cap1 : Nat) (l1 : List MO) (w : World) (hl : OpsAt w w.heap.size A l) (_ : l.length ≤ cap) (_ : cap ≤ maxLen) (hl1 : OpsAt w w.heap.size A1 l1) (_ : l1.length ≤ cap1) (_ : cap1 ≤ maxLen) :
    Calls Try.prog 4 #[.slice A l.length cap, .slice A1 l1.length cap1] w fun e w' => e = .returned (.bool true) ∧ Below w.heap.size w w' := by
  have HL := Lib.hid hl
  have HL1 := Lib.hid hl1
  clear hl hl1
  go_enter Try.func4, Try.ntmps4
  go_wp2_with fail
  ((with_reducible refine ((Sep.start w).newMem rfl).mono ?_); rintro e w1 ⟨rfl, hs⟩)
  generalize hwa : w.heap.size = a at hs ⊢
  have H := Lib.hid hs
  clear hs
  go_wp2_with fail
  ((with_reducible refine (H.out.newMem rfl).mono ?_); rintro e w2 ⟨rfl, hs⟩)
  generalize w1.heap.size = b at *
  have h3 : Sep w (((w2.alloc (.cells #[.slice none 0 0, .slice none 0 0, .slice none 0 0, .int .i64 0] 30)).alloc (.cells #[.slice none 0 0, .slice none 0 0, .slice none 0 0, .int .i64 0] 30)).alloc (.cells #[.int .i64 2, .int .i64 0, .int .i64 1] 34)) (twins a w2.heap.size b (w2.heap.size + 1) (w2.heap.size + 1 + 1) [] []) := by
    have h4 := (hs.newRef.newRef).boxV ⟨2, 0, 1⟩ rfl
    simp only [World.size_alloc] at h4
    exact h4.pick [0, 2, 1, 3, 4] (by decide) _ rfl
  obtain ⟨p0, p1, p2, pl⟩ := h3.boxAt 4 rfl
  have H3 := Lib.hid h3
  clear hs h3 H
  go_wp2_with fail
  ((with_reducible refine (alloc_nil 1 _).mono ?_); rintro e w3 ⟨rfl, hb⟩)
  generalize w2.heap.size = r at *
  have h4 := (H3.out.quiet hb).quiet ((Below.refl _ _).alloc (Nat.le_refl _) (.cells #[.int .i64 0, .int .i64 0, .int .i64 0] 34))
  clear p0 p1 p2 pl hb
  obtain ⟨p0, p1, p2, pl⟩ := h4.boxAt 4 rfl
  have H4 := Lib.hid h4
  clear h4 H3
  go_wp2_with fail
  ((with_reducible refine (end_nil ⟨2, 0, 1⟩ true ⟨2, 0, 1⟩ _).mono ?_); rintro e w4 ⟨rfl, hb⟩)
  rw [nilW2]
  have h5 := (H4.out.quiet hb).quiet ((Below.refl _ _).alloc (Nat.le_refl _) (.cells #[.int .i64 0, .int .i64 0, .int .i64 0] 34))
  clear p0 p1 p2 pl hb
  obtain ⟨p0, p1, p2, pl⟩ := h5.boxAt 4 rfl
  have H5 := Lib.hid h5
  clear h5 H4
  go_wp2_with fail
  ((with_reducible refine (lock_nil ⟨2, 0, 1⟩ _).mono ?_); rintro e w5 ⟨rfl, hb⟩)
  rw [nilW2]
  have h6 := H5.out.quiet hb
  clear p0 p1 p2 pl hb
  obtain ⟨p0, p1, p2, pl⟩ := h6.boxAt 4 rfl
  have H6 := Lib.hid h6
  clear h6 H5
  go_wp2_with fail
  ((with_reducible refine (wakes_any _).mono ?_); rintro e w6 ⟨rfl, hb⟩)
  have h7 := H6.out.quiet hb
  clear p0 p1 p2 pl hb
  obtain ⟨p0, p1, p2, pl⟩ := h7.boxAt 4 rfl
  have H7 := Lib.hid h7
  clear h7 H6
  go_wp2_with fail
  ((with_reducible refine (free_nil ⟨2, 0, 1⟩ _).mono ?_); rintro e w7 ⟨rfl, hb⟩)
  rw [nilW2]
  have h8 := H7.out.quiet hb
  clear p0 p1 p2 pl hb
  obtain ⟨p0, p1, p2, pl⟩ := h8.boxAt 4 rfl
  have H8 := Lib.hid h8
  clear h8 H7
  go_wp2_with fail
  ((with_reducible refine (begin_nil ⟨0, 0, 0⟩ true _).mono ?_); rintro e w8 ⟨rfl, hb⟩)
  rw [nilW1]
  have h9 := H8.out.quiet hb
  clear p0 p1 p2 pl hb
  obtain ⟨p0, p1, p2, pl⟩ := h9.boxAt 4 rfl
  have H9 := Lib.hid h9
  clear h9 H8
  go_wp2_with fail
  ((with_reducible refine (unlock_nil ⟨2, 0, 1⟩ _).mono ?_); rintro e w9 ⟨rfl, hb⟩)
  rw [nilW2]
  have H10 := Lib.hid (H9.out.quiet hb)
  clear p0 p1 p2 pl hb H9
  go_wp2_with fail
  ((with_reducible refine (blocks_nil _).mono ?_); rintro e w10 ⟨rfl, hb⟩)
  have H11 := Lib.hid (H10.out.quiet hb)
  clear hb H10
  go_wp2_with fail
  ((with_reducible refine (used_nil _).mono ?_); rintro e w11 ⟨rfl, hb⟩)
  have H12 := Lib.hid (H11.out.quiet hb)
  clear hb H11
  go_wp2
  go_loopw [17] (fun i wr => ∃ (k : Nat) (s t : MS), k ≤ 200 ∧ i = .int .i64 k ∧ Sep w wr (twins a r b (r + 1) (r + 1 + 1) s t) ∧ Rd s k ∧ Rd t k) (fun i _ => 200 - (intOf i).toNat)
  case atStart => exact ⟨0, [], [], by omega, rfl, H12.out, rd_nil _, rd_nil _⟩
  case round =>
    obtain ⟨k, s, t, hk, rfl, hs, hrs, hrt⟩ := hrel
    clear H12
    by_cases hgo : k < 200 ∧ (k < l.length ∨ k < l1.length)
    · obtain ⟨h200, hor⟩ := hgo
      have d200 : (k : Int) < 200 := by omega
      have hk3 : (k : Int) ≤ 1000000 := by omega
      by_cases h1 : k < l.length
      · obtain ⟨o, ho⟩ : ∃ o, l[k]? = some o := ⟨_, List.getElem?_eq_getElem h1⟩
        obtain ⟨fb, fo, rfl, fl, f0, f1, f2, f3, f4, f5, f6, f7⟩ := HL.out.at hs.below ho
        have d1 : (k : Int) < (l.length : Int) := by omega
        have H := Lib.hid hs.twinA
        have RS := Lib.hid hrs
        have RT := Lib.hid hrt
        clear hs hrs hrt ho hor
        by_cases h2 : k < l1.length
        · have d2 : (k : Int) < (l1.length : Int) := by omega
          go_wp2_with fail
          ((with_reducible refine (step_any H.out o RS.out hk3).mono ?_); rintro e w12 ⟨rfl, hs⟩)
          have RS2 := Lib.hid (RS.out.step (by omega) o)
          generalize stepS s o = s2 at *
          clear f0 f1 f2 f3 f4 f5 f6 f7 fl
          obtain ⟨o1, ho1⟩ : ∃ o, l1[k]? = some o := ⟨_, List.getElem?_eq_getElem h2⟩
          obtain ⟨fb1, fo1, rfl, fl, f0, f1, f2, f3, f4, f5, f6, f7⟩ := HL1.out.at hs.below ho1
          have HT := Lib.hid (hs.twinA'.twinT.twinA)
          clear hs ho1
          go_wp2_with fail
          ((with_reducible refine (step_any HT.out o1 RT.out hk3).mono ?_); rintro e w13 ⟨rfl, hs⟩)
          have RT2 := Lib.hid (RT.out.step (by omega) o1)
          have HF := Lib.hid (hs.twinA'.twinT)
          clear hs
          generalize stepS t o1 = t2 at *
          go_wp2
          go_roundw
          case rel => exact ⟨k + 1, s2, t2, by omega, by go_num, HF.out, RS2.out, RT2.out⟩
          case measure => simp [intOf]; omega
        · have d2 : ¬ (k : Int) < (l1.length : Int) := by omega
          go_wp2_with fail
          ((with_reducible refine (step_any H.out o RS.out hk3).mono ?_); rintro e w12 ⟨rfl, hs⟩)
          have RS2 := Lib.hid (RS.out.step (by omega) o)
          have HF := Lib.hid hs.twinA'
          clear hs
          generalize stepS s o = s2 at *
          go_wp2
          go_roundw
          case rel => exact ⟨k + 1, s2, t, by omega, by go_num, HF.out, RS2.out, RT.out.mono (by omega)⟩
          case measure => simp [intOf]; omega
      · have h2 : k < l1.length := by omega
        have d1 : ¬ (k : Int) < (l.length : Int) := by omega
        have d2 : (k : Int) < (l1.length : Int) := by omega
        obtain ⟨o1, ho1⟩ : ∃ o, l1[k]? = some o := ⟨_, List.getElem?_eq_getElem h2⟩
        obtain ⟨fb1, fo1, rfl, fl, f0, f1, f2, f3, f4, f5, f6, f7⟩ := HL1.out.at hs.below ho1
        have HT := Lib.hid (hs.twinT.twinA)
        have RS := Lib.hid hrs
        have RT := Lib.hid hrt
        clear hs hrs hrt ho1 hor
        go_wp2_with fail
        ((with_reducible refine (step_any HT.out o1 RT.out hk3).mono ?_); rintro e w13 ⟨rfl, hs⟩)
        have RT2 := Lib.hid (RT.out.step (by omega) o1)
        have HF := Lib.hid (hs.twinA'.twinT)
        clear hs
        generalize stepS t o1 = t2 at *
        go_wp2
        go_roundw
        case rel => exact ⟨k + 1, s, t2, by omega, by go_num, HF.out, RS.out.mono (by omega), RT2.out⟩
        case measure => simp [intOf]; omega
    · have hor : ¬ (k : Int) < 200 ∨ ((k : Int) < 200 ∧ ¬ (k : Int) < (l.length : Int) ∧ ¬ (k : Int) < (l1.length : Int)) := by omega
      have H := Lib.hid hs
      clear hs hrs hrt hgo HL HL1
      rcases hor with hx | ⟨hx, hx1, hx2⟩
      all_goals
        obtain ⟨OM, hOM⟩ := H.out.mem 0 rfl
        go_wp2_with fail
        ((with_reducible refine (blocks_any hOM).mono ?_); rintro e w12 ⟨g, qs, rfl, hbk, hb⟩)
        have HB0 := Lib.hid hb
        have HK := Lib.hid (RowsIs.of hbk)
        have hsl := usedS_len s
        obtain ⟨_, _, hmi, _⟩ := hOM
        have hsm := hmi.most
        clear hb hbk hmi
        go_wp2_with fail
        go_loopw [137] (fun i wq => ∃ k : Nat, k ≤ s.length ∧ i = .int .i64 k ∧ RowsIs wq wr.heap.size g s qs ∧ Below wr.heap.size wr wq) (fun i _ => s.length - (intOf i).toNat)
        case atStart => exact ⟨0, by omega, rfl, HK.out, HB0.out⟩
        case round =>
          rename World => wq
          obtain ⟨k2, hk2, rfl, hrow, hbq⟩ := hrel
          clear HK HB0
          by_cases hks : k2 < s.length
          · obtain ⟨m, hm⟩ : ∃ m, s[k2]? = some m := ⟨_, List.getElem?_eq_getElem hks⟩
            obtain ⟨q, hq, t0, t1, t2, t3, tl⟩ := hrow.at hm
            have dks : (k2 : Int) < (s.length : Int) := by omega
            have hml := usedS_block s m (List.mem_of_getElem? hm)
            have HT := Lib.hid (show TwRel wr g s qs wq.heap.size [.bool m.live, .slice (some ⟨q.c, 0, none⟩) m.cells.length m.cells.length, .slice (some ⟨q.r, 0, none⟩) m.cells.length m.cells.length, .slice (some ⟨q.w, 0, none⟩) m.cells.length m.cells.length] (wq.alloc (.cells #[.bool m.live, .slice (some ⟨q.c, 0, none⟩) m.cells.length m.cells.length, .slice (some ⟨q.r, 0, none⟩) m.cells.length m.cells.length, .slice (some ⟨q.w, 0, none⟩) m.cells.length m.cells.length] 55)) from ⟨hrow.below ((Below.refl _ _).alloc (Nat.le_refl _) _), hbq.alloc hbq.size _, Blk.new wq _ _⟩)
            have HROW := Lib.hid hrow
            have HM := Lib.hid hm
            have HQ := Lib.hid hq
            clear hrow hbq hm hq
            go_wp2_with fail
            go_loopw [144] (fun i wz => ∃ j : Nat, j ≤ m.cells.length ∧ i = .int .i64 j ∧ TwRel wr g s qs wq.heap.size [.bool m.live, .slice (some ⟨q.c, 0, none⟩) m.cells.length m.cells.length, .slice (some ⟨q.r, 0, none⟩) m.cells.length m.cells.length, .slice (some ⟨q.w, 0, none⟩) m.cells.length m.cells.length] wz) (fun i _ => m.cells.length - (intOf i).toNat)
            case atStart => exact ⟨0, by omega, rfl, HT.out⟩
            case round =>
              rename World => wz
              obtain ⟨j, hj, rfl, hT⟩ := hrel
              clear HT t0 t1 t2 t3 tl
              by_cases hjm : j < m.cells.length
              · have djm : (j : Int) < (m.cells.length : Int) := by omega
                have hold := HROW.out.old HM.out HQ.out hjm
                obtain ⟨_, _, _, _, _, _, _, _, _, _, _, _, _, lc, lr, lw, _⟩ := hold
                obtain ⟨x0, x1, x2, y, z, c0, c1, c2, c3, c4, fc, fr, fw, lc2, lr2, lw2, n1, n2, n3, n4, n5, n6, b1, b2, b3⟩ := hT.1.old HM.out HQ.out hjm
                have e1 := hT.2.2.cell 1
                have e2 := hT.2.2.cell 2
                have e3 := hT.2.2.cell 3
                have el := hT.2.2.lt
                simp only [List.getElem?_cons_zero, List.getElem?_cons_succ] at e1 e2 e3
                obtain ⟨p0, p1, p2, pl⟩ := (H.out.quiet hT.2.1).boxAt 4 rfl
                have g1 : wq.heap.size ≠ q.c := by omega
                have g2 : wq.heap.size ≠ q.r := by omega
                have g3 : wq.heap.size ≠ q.w := by omega
                obtain ⟨pp0, _, _, ppl⟩ := H.out.boxAt 4 rfl
                have k1 : r + 1 + 1 ≠ q.c := by omega
                have k2' : r + 1 + 1 ≠ q.r := by omega
                have k3 : r + 1 + 1 ≠ q.w := by omega
                have v0 := fc (j * 3)
                have v1 := fc (j * 3 + 1)
                have v2 := fc (j * 3 + 2)
                have v3 := fr j
                have v4 := fw j
                have n4' := n4.symm
                have n5' := n5.symm
                have n6' := n6.symm
                have HT := Lib.hid hT
                have E0 := Lib.hid (show wz.cell? ⟨wq.heap.size, 1, none⟩ = some (.slice (some ⟨q.c, 0, none⟩) m.cells.length m.cells.length) ∧ wz.cell? ⟨wq.heap.size, 2, none⟩ = some (.slice (some ⟨q.r, 0, none⟩) m.cells.length m.cells.length) ∧ wz.cell? ⟨wq.heap.size, 3, none⟩ = some (.slice (some ⟨q.w, 0, none⟩) m.cells.length m.cells.length) ∧ wz.cell? ⟨r + 1 + 1, 0, none⟩ = some (.int .i64 2) ∧ wz.cell? ⟨r + 1 + 1, 1, none⟩ = some (.int .i64 0) ∧ wz.cell? ⟨r + 1 + 1, 2, none⟩ = some (.int .i64 1) from ⟨e1, e2, e3, p0, p1, p2⟩)
                have E1 := Lib.hid (heldT_drew E0.out)
                have m1 := heldT_put (i := j * 3 + 2) (u := .int .i64 1) (heldT_put (i := j * 3 + 1) (u := .int .i64 0) (heldT_put (i := j * 3) (u := .int .i64 2) E0.out g1 k1) g1 k1) g1 k1
                have m2 := heldT_put (i := j) (u := .int .i64 9) m1 g2 k2'
                have m3 := heldT_put (i := j) (u := .bool true) m2 g3 k3
                have E2 := Lib.hid (heldT_drew m1)
                have E3 := Lib.hid (heldT_drew m2)
                have E4 := Lib.hid (heldT_drew m3)
                have HTF := Lib.hid ((((((hT.put n1 b1 g1 (i := j * 3) (u := .int .i64 2)).put n1 b1 g1 (i := j * 3 + 1) (u := .int .i64 0)).put n1 b1 g1 (i := j * 3 + 2) (u := .int .i64 1)).put n2 b2 g2 (i := j) (u := .int .i64 9)).put n3 b3 g3 (i := j) (u := .bool true)).drew)
                clear m1 m2 m3
                clear hT fc fr fw pp0
                go_wp2_with fail
                go_region_held3 (fun w' => w'.cell? ⟨wq.heap.size, 1, none⟩ = some (.slice (some ⟨q.c, 0, none⟩) m.cells.length m.cells.length) ∧ w'.cell? ⟨wq.heap.size, 2, none⟩ = some (.slice (some ⟨q.r, 0, none⟩) m.cells.length m.cells.length) ∧ w'.cell? ⟨wq.heap.size, 3, none⟩ = some (.slice (some ⟨q.w, 0, none⟩) m.cells.length m.cells.length) ∧ w'.cell? ⟨r + 1 + 1, 0, none⟩ = some (.int .i64 2) ∧ w'.cell? ⟨r + 1 + 1, 1, none⟩ = some (.int .i64 0) ∧ w'.cell? ⟨r + 1 + 1, 2, none⟩ = some (.int .i64 1))
                  (first | with_reducible exact E0.out | with_reducible exact E1.out | with_reducible exact E2.out | with_reducible exact E3.out | with_reducible exact E4.out) (fail)
                clear E0 E1 E2 E3 E4 c0 c1 c2 c3 c4 v0 v1 v2 v3 v4 e1 e2 e3 p0 p1 p2
                go_wp2
                go_roundw
                case rel => exact ⟨j + 1, by omega, by go_num, HTF.out⟩
                case measure => simp [intOf]; omega
              · have djm : ¬ (j : Int) < (m.cells.length : Int) := by omega
                have HT := Lib.hid hT
                clear hT
                go_wp2
                go_roundw
                case rel => exact ⟨k2 + 1, by omega, by go_num, HT.out.1, HT.out.2.1⟩
                case measure => simp [intOf]; omega
          · have dks : ¬ (k2 : Int) < (s.length : Int) := by omega
            have H1 := Lib.hid (H.out.quiet hbq)
            clear hrow hbq H
            obtain ⟨OM, hOM⟩ := H1.out.mem 0 rfl
            go_wp2_with fail
            ((with_reducible refine (blocks_any hOM).mono ?_); rintro e w13 ⟨g2, qs2, rfl, hbk, hb⟩)
            have H2 := Lib.hid (H1.out.quiet hb)
            have HBK := Lib.hid hbk
            clear hb hbk hOM H1
            go_wp2_with fail
            ((with_reducible refine (H2.out.used 0 rfl rfl).mono ?_); rintro e w14 ⟨rfl, rfl⟩)
            obtain ⟨OR, hOR⟩ := H2.out.ref 1 rfl
            go_wp2_with fail
            ((with_reducible refine (same_any HBK.out hOR).mono ?_); rintro e w15 ⟨rfl, hb⟩)
            have H3 := Lib.hid (H2.out.quiet hb)
            clear hb hOR H2 HBK
            obtain ⟨OM, hOM⟩ := H3.out.mem 2 rfl
            go_wp2_with fail
            ((with_reducible refine (blocks_any hOM).mono ?_); rintro e w16 ⟨g3, qs3, rfl, hbk, hb⟩)
            have H4 := Lib.hid (H3.out.quiet hb)
            have HBK := Lib.hid hbk
            clear hb hbk hOM H3
            go_wp2_with fail
            ((with_reducible refine (H4.out.used 2 rfl rfl).mono ?_); rintro e w17 ⟨rfl, rfl⟩)
            obtain ⟨OR, hOR⟩ := H4.out.ref 3 rfl
            go_wp2_with fail
            ((with_reducible refine (same_any HBK.out hOR).mono ?_); rintro e w18 ⟨rfl, hb⟩)
            have HE := Lib.hid (H4.out.quiet hb).below
            clear hb hOR H4 HBK
            go_wp2
            go_ret
            exact ⟨rfl, HE.out⟩
theorem memTwins_reads (os : Os) {H : Type} (enc : TypeId × Value → H) : ∃ places, DataW.whole enc Try.prog ((World.holding Try.prog os ⟨#[], #[], []⟩).forCall (fun _ _ => 0) ⟨#[], #[Value.slice none 0 0, Value.slice none 0 0], []⟩).memory Try.f4.params.toList Rows.memTwinsSpec.vars false #[Value.slice none 0 0, Value.slice none 0 0].toList 8 = some ([.nil, .nil], [], places) :=
  ⟨[], by kernel_rfl⟩

set_option maxRecDepth 100000 in
theorem memTwins_lifted (os : Os) (started : os.Started) (H : Type) (enc : TypeId × Value → H) (F : Stop.Interp) :
    ReturnsInHanded {} Try.checked os 4 .any ((OpenSpec.ofChange Rows.memTwinsSpec).preRow enc Try.prog Try.f4 Rows.memTwinsRow.domain false Rows.memTwinsRow.laid) (((OpenSpec.ofChange Rows.memTwinsSpec).at F).post enc Try.prog Try.f4 false true false false) := by
  obtain ⟨places, hx⟩ := memTwins_reads os enc
  refine returnsInHanded_of_row (C := Try.checked) (s := OpenSpec.ofChange Rows.memTwinsSpec) own started (by kernel_rfl) Try.func4
    (witness_row_at (enc := enc) (C := Try.checked) false (World.holding Try.prog os ⟨#[], #[], []⟩) #[Value.slice none 0 0, Value.slice none 0 0] rfl (by kernel_rfl) (by kernel_rfl) (by kernel_rfl)
      (OpenSpec.preRow_of_cond 8 hx (by kernel_rfl) (fun k hk => by cases hk) (by kernel_rfl) (laidMet_of_run' 8 (by kernel_rfl) (by kernel_rfl)))) ?_
  intro W base args ds gs before hval hW _ _ hreach _ _ _
  exact ops2_contract Try.params4 (by kernel_rfl) rfl (fun _ _ => rfl) memTwins_walk W base args ds gs before hval hW hreach

theorem memTwins_said : Rows.MemTwinsSaid :=
  OpenClaim.holds_of_cond 4 Try.f4 rfl rfl rfl rfl rfl rfl rfl ⟨rfl, rfl, rfl, rfl, rfl⟩ rfl rfl rfl rfl rfl (by kernel_rfl) Try.func4 (by kernel_rfl)
    (of_decide_eq_true (by kernel_rfl)) (by unfold Func.isWrapper; first | (rw [if_pos (by decide +kernel)]; kernel_rfl) | (rw [if_neg (by decide +kernel)]; exact ⟨rfl, rfl⟩))
    (fun os started H enc _ F => by rw [OpenClaim.pre_eq_preRow]; exact memTwins_lifted os started H enc F)

end Go.Proofs.Ytnjndggdnmboeaa
