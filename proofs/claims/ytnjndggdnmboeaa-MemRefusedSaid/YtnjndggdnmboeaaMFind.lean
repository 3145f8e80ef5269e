/- The contracts of lychgateref06.Find and whole. -/
import Derived.Test.YtnjndggdnmboeaaMRefW
namespace Go.Proofs.Ytnjndggdnmboeaa
open Go.RowKit

/- What Find comes to: the place of the cell, where the pointer names one. -/
def FPost (W : Int) (s : MS) (p : MV) (w : World) (e : Ending) (w' : World) : Prop := ∃ i : Int, e = .returned (.tuple #[.int .i64 i, .int .i64 W]) ∧ (whyC s p = 0 → i = (placeR s p : Int)) ∧ Below w.heap.size w w'
theorem FPost.no {W : Int} {s : MS} {p : MV} {w w' : World} {c i : Int} (h : W = c) (hc : whyC s p ≠ 0) (hb : Below w.heap.size w w') : FPost W s p w (.returned (.tuple #[.int .i64 i, .int .i64 c])) w' :=
  ⟨i, by rw [h], fun h0 => absurd h0 hc, hb⟩
theorem FPost.yes {W : Int} {s : MS} {p : MV} {w w' : World} {c : Int} {k : Nat} (h : W = c) (hk : k = placeR s p) (hb : Below w.heap.size w w') : FPost W s p w (.returned (.tuple #[.int .i64 (k : Int), .int .i64 c])) w' :=
  ⟨k, by rw [h], fun _ => by rw [hk], hb⟩
theorem whyC_bounds {s : MS} {p : MV} (hb : whyB s p = 0) (h : whyC s p ≠ 0) : whyC s p = 3 := by
  unfold whyC at h ⊢
  rw [if_neg (by omega)] at h ⊢
  split
  · rfl
  · rename_i h1
    rw [if_neg h1] at h
    exact absurd rfl h
theorem find_none {s : MS} {p : MV} (hb : whyB s p = 0) {n : Nat} (hn : (rcs 0 s).length ≤ n) (hno : ∀ x e, x < n → (rcs 0 s)[x]? = some e → hitR p e = false) : whyC s p = 3 ∧ whyC s p ≠ 0 := by
  have h : whyC s p ≠ 0 := by
    intro h0
    obtain ⟨h1, h2, _⟩ := rcs_hit h0
    have hlt := (List.getElem?_eq_some_iff.1 h1).1
    have := hno _ _ (by omega) h1
    rw [h2] at this
    cases this
  exact ⟨whyC_bounds hb h, h⟩
theorem find_hit {s : MS} {p : MV} (hb : whyB s p = 0) {x : Nat} {e : RC} (he : (rcs 0 s)[x]? = some e) (hh : hitR p e = true) : whyC s p = 0 ∧ x = placeR s p := by
  have h0 : whyC s p = 0 := by
    rcases Int.decEq (whyC s p) 0 with h | h
    · have := rcs_miss hb h x e he
      rw [hh] at this
      cases this
    · exact h
  exact ⟨h0, (rcs_hit h0).2.2 x e he hh⟩

set_option maxRecDepth 100000 in
set_option maxHeartbeats 4000000 in
theorem find_any {w : World} {b : Nat} {vl vs vc : Value} {s : MS} (h : RefIs w b vl vs vc s) (p : MV) :
    Calls Try.prog 36 #[.pointer (some ⟨b, 0, none⟩), .agg #[.int .i64 p.kind, .int .i64 p.n, .int .i64 p.block]] w (FPost (whyC s p) s p w) := by
  have H := Lib.hid (h.below ((Below.refl w.heap.size w).alloc (Nat.le_refl _) (.cells #[.int .i64 p.kind, .int .i64 p.n, .int .i64 p.block] 61)))
  clear h
  go_enter Try.func36, Try.ntmps36
  go_wp2_with fail
  ((with_reducible refine (refLive_any H.out p).mono ?_); rintro e w1 ⟨rfl, hb1⟩)
  have hbelow := Lib.hid (((Below.refl w.heap.size w).alloc (Nat.le_refl _) (.cells #[.int .i64 p.kind, .int .i64 p.n, .int .i64 p.block] 61)).trans (hb1.mono (by simp)))
  have H1 := Lib.hid (H.out.below hb1)
  have HBx := Lib.hid ((Blk.new w [.int .i64 p.kind, .int .i64 p.n, .int .i64 p.block] 61).below hb1 (by simp))
  clear hb1
  by_cases h0 : whyB s p = 0
  · have H0 := Lib.hid h0
    obtain ⟨Al, cl, As, cs, Ac, cc, _, _, hv, _, _, f2, _, _, _, _, _, l1, l2, _, hle, hlt⟩ := H1.out.facts
    have HV := Lib.hid hv
    clear hv
    rw [h0]
    clear h0
    have hzw := HBx.out.lt
    go_wp2
    go_loopw [7] (fun i wr => ∃ k : Nat, k ≤ (rcs 0 s).length ∧ i = .int .i64 k ∧ Below w1.heap.size w1 wr ∧ ∀ x e, x < k → (rcs 0 s)[x]? = some e → hitR p e = false) (fun i _ => (rcs 0 s).length - (intOf i).toNat)
    case atStart => exact ⟨0, by omega, rfl, Below.refl _ _, fun x e hx => by omega⟩
    case round =>
      obtain ⟨k, hk, rfl, hb, hno⟩ := hrel
      have HB := Lib.hid hb
      have HN := Lib.hid hno
      have HBx2 := HBx.out.below hb hzw
      have x1 := HBx2.cell 1
      have x2 := HBx2.cell 2
      have xl := HBx2.lt
      simp only [List.getElem?_cons_zero, List.getElem?_cons_succ] at x1 x2
      have f2' := (bcell hb).1 b 2 hlt
      rw [f2] at f2'
      have hlt' : b < wr.heap.size := Nat.lt_of_lt_of_le hlt hb.size
      clear hno HBx2
      by_cases hks : k < (rcs 0 s).length
      · obtain ⟨e, he⟩ : ∃ e, (rcs 0 s)[k]? = some e := ⟨_, List.getElem?_eq_getElem hks⟩
        obtain ⟨g, cap, hv, hgl, _, hcell⟩ := (H1.out.below hb).cellAt he
        have ev := HV.out.symm.trans hv
        simp only [Value.slice.injEq, true_and] at ev
        obtain ⟨rfl, rfl⟩ := ev
        have d0 := hcell 0 (by omega)
        have d1 := hcell 1 (by omega)
        simp only [rCells, List.getElem?_cons_zero, List.getElem?_cons_succ, Nat.add_zero] at d0 d1
        have HE := Lib.hid he
        have hk1 : (k : Int) < ((rcs 0 s).length : Int) := by omega
        clear hv he hcell hb
        generalize (rcs 0 s).length = L at *
        cases t1 : decide ((e.block : Int) = p.block)
        · have q1 : ((e.block : Int) == p.block) = false := by simpa using t1
          have HH : Hid (hitR p e = false) := Lib.hid (by unfold hitR; rw [t1]; rfl)
          clear t1
          go_wp2
          go_quiet (fail)
          go_wp2
          go_roundw
          case rel => exact ⟨k + 1, by omega, by go_num, below_drewN HB.out _, fun x e' hx he' => by
            rcases Nat.lt_or_ge x k with h1 | h1
            · exact HN.out x e' h1 he'
            · obtain rfl : x = k := by omega
              rw [HE.out] at he'
              cases he'
              exact HH.out⟩
          case measure => simp [intOf]; omega
        · have q1 : ((e.block : Int) == p.block) = true := by simpa using t1
          cases t2 : decide ((e.number : Int) = p.n)
          · have q2 : ((e.number : Int) == p.n) = false := by simpa using t2
            have HH : Hid (hitR p e = false) := Lib.hid (by unfold hitR; rw [t1, t2]; rfl)
            clear t1 t2
            go_wp2
            go_quiet (fail)
            go_wp2
            go_roundw
            case rel => exact ⟨k + 1, by omega, by go_num, below_drewN HB.out _, fun x e' hx he' => by
              rcases Nat.lt_or_ge x k with h1 | h1
              · exact HN.out x e' h1 he'
              · obtain rfl : x = k := by omega
                rw [HE.out] at he'
                cases he'
                exact HH.out⟩
            case measure => simp [intOf]; omega
          · have q2 : ((e.number : Int) == p.n) = true := by simpa using t2
            have HH : Hid (hitR p e = true) := Lib.hid (by unfold hitR; rw [t1, t2]; rfl)
            clear t1 t2
            go_wp2
            go_quiet (fail)
            go_wp2
            go_ret2
            exact FPost.yes (find_hit H0.out HE.out HH.out).1 (find_hit H0.out HE.out HH.out).2 (hbelow.out.trans ((below_drewN HB.out _).mono hbelow.out.size))
      · have HF := Lib.hid (find_none H0.out (n := k) (by omega) HN.out)
        clear hb
        generalize (rcs 0 s).length = L at *
        go_wp2
        go_ret2
        exact FPost.no HF.out.1 HF.out.2 (hbelow.out.trans (HB.out.mono hbelow.out.size))
  · have hd : (whyB s p != 0) = true := by simpa using h0
    have HR := Lib.hid (whyC_B rfl h0)
    have HN : Hid (whyC s p ≠ 0) := Lib.hid (by rw [HR.out]; exact h0)
    clear h0
    generalize whyB s p = c at *
    go_wp2
    go_ret2
    exact FPost.no HR.out HN.out hbelow.out

end Go.Proofs.Ytnjndggdnmboeaa
