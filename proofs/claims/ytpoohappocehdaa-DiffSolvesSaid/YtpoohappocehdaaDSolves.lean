/- Proved here: for every number and every list of facts that lychgatelaw04.DiffSolves is called with, in every memory, the call returns true and its arguments read as before. No conditions. -/
import Derived.Test.YtpoohappocehdaaDRefP
namespace Go.Proofs.Ytpoohappocehdaa
open Go.ChangeShapes Go.WideShapes Go.ChangeAt Go.RowKit

theorem fine_of_plain {n : Nat} {fs : List F} {l : List Int} (fit : FitS n fs) (h : Plain n fs l) : Fine fs n := by
  obtain ⟨_, _, v, hv, _⟩ := h
  exact fine_of_sol fit hv.sol
theorem not_fine_of_circle {n : Nat} {fs : List F} {c : List Nat} (fit : FitS n fs) (h : IsCircle fs c) : ¬ Fine fs n := fun hf => h.none _ (table_sol fit (fine_inv fit hf))

set_option maxHeartbeats 8000000 in
set_option maxRecDepth 100000 in
theorem diffSolves_walk (n : Int) (A : Option Addr) (cap : Nat) (fs : List F) (w : World) (hfs : FactsAt w w.heap.size A fs) (hcap : fs.length ≤ cap) (hcm : cap ≤ maxLen) (hby : cap * 24 ≤ 140737488351232) :
    Calls Try.prog 3 #[.int .i64 n, .slice A fs.length cap] w fun e w' => e = .returned (.bool true) ∧ Below w.heap.size w w' := by
  have HF := Lib.hid hfs
  clear hfs
  have hcm' := hcm
  unfold maxLen at hcm'
  obtain ⟨i0, I⟩ := Try.leqInfo
  go_enter Try.func3, Try.ntmps3
  go_wp2_with (at_builtin; refine wpList_append_facts (fs := []) rfl (.const (.slice none 0 0)) (.tmp 13) rfl I rfl (World.ownsRow_nil _ w.heap.size _ _) rfl HF.out rfl ?c3 ?c4 ?c5 ?_)
  case c3 => unfold maxLen; omega
  case c4 => omega
  case c5 => exact Nat.le_refl _
  intro A1 c1 w1 hown1 hgrow1
  have HB1 := Lib.hid ((Below.refl w.heap.size w).grown hgrow1 (Nat.le_refl _) (fun k hk => by simp [Value.ownBlock] at hk))
  have HO1 := Lib.hid hown1
  clear hown1 hgrow1
  by_cases hr : refuseB n fs = 0
  · obtain ⟨m, rfl, fit⟩ := refuse_ok hr
    have hn1 := fit.n1
    have hn2 := fit.n2
    have hlen := fit.len
    have HFIT := Lib.hid fit
    have HR := Lib.hid hr
    clear hr fit
    go_wp2_with fail
    refine (solve_ok m A1 c1 fs _ (FactsAt.of_own HO1.out) HFIT.out).mono ?_
    rintro e w2 ⟨hb2, hans⟩
    have HB2 := Lib.hid (HB1.out.trans (hb2.mono HB1.out.size))
    have hsz2 : w1.heap.size ≤ w2.heap.size := hb2.size
    clear hb2
    rcases hans with ⟨l, g, hp, rfl, hg, hblk⟩ | ⟨v, c, hc, hl, rfl, hown⟩
    · have HP := Lib.hid hp
      have HK := Lib.hid hblk
      clear hp hg hblk
      go_wp2_with fail
      refine (refs_any A cap fs _ ((HF.out.below HB2.out (Nat.le_refl _)).more HB2.out.size) (Nat.le_trans hcap hcm) (by omega)).mono ?_
      rintro e w3 ⟨A3, c3, rfl, hown3, hb3⟩
      have HB3 := Lib.hid (HB2.out.trans (hb3.mono HB2.out.size))
      have HK3 := Lib.hid (HK.out.below hb3 HK.out.lt)
      have HO3 := Lib.hid hown3
      clear hb3 hown3
      go_wp2_with fail
      refine (fit_any m A3 c3 fs _ (FactsAt.of_own HO3.out) (Nat.le_trans hcap hcm)).mono ?_
      rw [HR.out]
      rintro e w4 ⟨rfl, hb4⟩
      have HB4 := Lib.hid (HB3.out.trans (hb4.mono HB3.out.size))
      have HK4 := Lib.hid (HK3.out.below hb4 HK3.out.lt)
      clear hb4
      go_wp2_with fail
      refine (wakes_any _).mono ?_
      rintro e w5 ⟨rfl, hb5⟩
      have HB5 := Lib.hid (HB4.out.trans (hb5.mono HB4.out.size))
      have HK5 := Lib.hid (HK4.out.below hb5 HK4.out.lt)
      clear hb5
      by_cases h40 : 40 < m
      · have h40' : (40 : Int) < (m : Int) := by omega
        go_wp2
        go_ret
        exact ⟨rfl, HB5.out⟩
      · have h40' : ¬ (40 : Int) < (m : Int) := by omega
        go_wp2_with fail
        refine (refs_any A cap fs _ ((HF.out.below HB5.out (Nat.le_refl _)).more HB5.out.size) (Nat.le_trans hcap hcm) (by omega)).mono ?_
        rintro e w6 ⟨A6, c6, rfl, hown6, hb6⟩
        have HB6 := Lib.hid (HB5.out.trans (hb6.mono HB5.out.size))
        have HK6 := Lib.hid (HK5.out.below hb6 HK5.out.lt)
        have HO6 := Lib.hid hown6
        clear hb6 hown6
        go_wp2_with fail
        refine (refPlain_any m A6 c6 fs _ (FactsAt.of_own HO6.out) HFIT.out (by omega)).mono ?_
        rw [show RefPlainPost fs m = fun w e w' => RefPlainPost fs m w e w' from rfl]
        rintro e w7 ⟨hb7, ⟨hbad, rfl⟩ | ⟨_, g2, rfl, hg2, hblk2⟩⟩
        · exact absurd (fine_of_plain HFIT.out HP.out) hbad
        · have HB7 := Lib.hid (HB6.out.trans (hb7.mono HB6.out.size))
          have HK7 := Lib.hid (HK6.out.below hb7 HK6.out.lt)
          have HL7 := Lib.hid hblk2
          have HEQ := Lib.hid (fun i hi => refPlain_plain HFIT.out (fine_of_plain HFIT.out HP.out) HP.out i hi)
          have HLL2 : Hid (∀ i, i < m → i < (less m m (fun x => rowMin (fwT fs m m) x m) (rowMin (fwT fs m m) 0 m)).length) := Lib.hid fun i hi => by rw [less_len]; exact hi
          generalize less m m (fun x => rowMin (fwT fs m m) x m) (rowMin (fwT fs m m) 0 m) = l2 at *
          have HLL : Hid (l.length = m) := Lib.hid HP.out.1
          have t2 : ((m : Int) != (m : Int)) = false := by simp
          clear hb7 hg2 hblk2
          go_wp2_with fail
          go_loopw [80] (fun i wr => ∃ k : Nat, k ≤ m ∧ i = .int .i64 k ∧ Below w7.heap.size w7 wr) (fun i _ => m - (intOf i).toNat)
          case atStart => exact ⟨0, by omega, rfl, Below.refl _ _⟩
          case round =>
            obtain ⟨k, hk, rfl, hb⟩ := hrel
            by_cases hlt : k < m
            · have a1 := (hb.cell (p := ⟨g, k, none⟩) HK7.out.lt).trans ((HK7.out.cell k).trans (intsGet l k (by rw [HLL.out]; exact hlt)))
              have a2 := (hb.cell (p := ⟨g2, k, none⟩) HL7.out.lt).trans ((HL7.out.cell k).trans (intsGet l2 k (HLL2.out k hlt)))
              rw [HEQ.out k hlt] at a1
              generalize l2.getD k 0 = a at *
              have t3 : (a != a) = false := by simp
              have hk2 : (k : Int) < (m : Int) := by omega
              have HBQ := Lib.hid hb
              clear hb
              go_wp2_with fail
              go_quiet (fail)
              go_wp2
              go_roundw
              case rel => exact ⟨k + 1, by omega, by go_num, below_drewN HBQ.out _⟩
              case measure => simp [intOf]; omega
            · have HBQ := Lib.hid (HB7.out.trans (hb.mono HB7.out.size))
              clear hb
              go_wp2
              go_ret
              exact ⟨rfl, HBQ.out⟩
    · have HC := Lib.hid hc
      have hc0 := hc.ne
      obtain ⟨g, c2, rfl, _, _⟩ := hown.form hc.ne
      have HO := Lib.hid hown
      have HNF := Lib.hid (not_fine_of_circle HFIT.out hc)
      clear hc hown
      go_wp2_with fail
      refine (refs_any A cap fs _ ((HF.out.below HB2.out (Nat.le_refl _)).more HB2.out.size) (Nat.le_trans hcap hcm) (by omega)).mono ?_
      rintro e w3 ⟨A3, c3, rfl, hown3, hb3⟩
      have HB3 := Lib.hid (HB2.out.trans (hb3.mono HB2.out.size))
      have HK3 := Lib.hid (own_below HO.out hb3)
      have HO3 := Lib.hid hown3
      clear hb3 hown3
      go_wp2_with fail
      refine (fit_any m A3 c3 fs _ (FactsAt.of_own HO3.out) (Nat.le_trans hcap hcm)).mono ?_
      rw [HR.out]
      rintro e w4 ⟨rfl, hb4⟩
      have HB4 := Lib.hid (HB3.out.trans (hb4.mono HB3.out.size))
      have HK4 := Lib.hid (own_below HK3.out hb4)
      clear hb4
      go_wp2_with fail
      refine (wakes_any _).mono ?_
      rintro e w5 ⟨rfl, hb5⟩
      have HB5 := Lib.hid (HB4.out.trans (hb5.mono HB4.out.size))
      have HK5 := Lib.hid (own_below HK4.out hb5)
      clear hb5
      by_cases h40 : 40 < m
      · have h40' : (40 : Int) < (m : Int) := by omega
        go_wp2
        go_ret
        exact ⟨rfl, HB5.out⟩
      · have h40' : ¬ (40 : Int) < (m : Int) := by omega
        go_wp2_with fail
        refine (refs_any A cap fs _ ((HF.out.below HB5.out (Nat.le_refl _)).more HB5.out.size) (Nat.le_trans hcap hcm) (by omega)).mono ?_
        rintro e w6 ⟨A6, c6, rfl, hown6, hb6⟩
        have HB6 := Lib.hid (HB5.out.trans (hb6.mono HB5.out.size))
        have HK6 := Lib.hid (own_below HK5.out hb6)
        have HO6 := Lib.hid hown6
        clear hb6 hown6
        go_wp2_with fail
        refine (refPlain_any m A6 c6 fs _ (FactsAt.of_own HO6.out) HFIT.out (by omega)).mono ?_
        rw [show RefPlainPost fs m = fun w e w' => RefPlainPost fs m w e w' from rfl]
        rintro e w7 ⟨hb7, ⟨_, rfl⟩ | ⟨hfine, _⟩⟩
        · have HB7 := Lib.hid (HB6.out.trans (hb7.mono HB6.out.size))
          have HK7 := Lib.hid (own_below HK6.out hb7)
          have t3 : decide ((c.length : Int) ≤ (m : Int)) = true := by simpa using hl
          have t4 : decide (c.length ≤ m) = true := by simpa using hl
          clear hb7
          go_wp2_with fail
          refine (lawCircle_any A _ cap c2 m fs c w7 ((HF.out.below HB7.out (Nat.le_refl _)).more HB7.out.size) (NumsAt.of_own HK7.out) HC.out (by omega) HFIT.out.fit hlen).mono ?_
          rintro e w8 ⟨rfl, hb8⟩
          have HB8 := Lib.hid (HB7.out.trans (hb8.mono HB7.out.size))
          clear hb8
          go_wp2
          go_ret
          exact ⟨rfl, HB8.out⟩
        · exact absurd hfine HNF.out
  · have t1 : (refuseB n fs != 0) = true := by simpa using hr
    have t2 : (refuseB n fs != refuseB n fs) = false := by simp
    have HR := Lib.hid hr
    clear hr
    go_wp2_with fail
    refine (solve_no n A1 c1 fs _ (FactsAt.of_own HO1.out) (Nat.le_trans hcap hcm) HR.out).mono ?_
    rintro e w2 ⟨rfl, hb2⟩
    have HB2 := Lib.hid (HB1.out.trans (hb2.mono HB1.out.size))
    clear hb2
    go_wp2_with fail
    refine (refs_any A cap fs _ ((HF.out.below HB2.out (Nat.le_refl _)).more HB2.out.size) (Nat.le_trans hcap hcm) (by omega)).mono ?_
    rintro e w3 ⟨A3, c3, rfl, hown3, hb3⟩
    have HB3 := Lib.hid (HB2.out.trans (hb3.mono HB2.out.size))
    have HO3 := Lib.hid hown3
    clear hb3 hown3
    go_wp2_with fail
    refine (fit_any n A3 c3 fs _ (FactsAt.of_own HO3.out) (Nat.le_trans hcap hcm)).mono ?_
    rintro e w4 ⟨rfl, hb4⟩
    have HB4 := Lib.hid (HB3.out.trans (hb4.mono HB3.out.size))
    clear hb4 HR
    generalize refuseB n fs = cd at *
    go_wp2_with fail
    refine (wakes_any _).mono ?_
    rintro e w5 ⟨rfl, hb5⟩
    have HB5 := Lib.hid (HB4.out.trans (hb5.mono HB4.out.size))
    clear hb5
    go_wp2
    go_ret
    exact ⟨rfl, HB5.out⟩

theorem diffSolves_reads (os : Os) {H : Type} (enc : TypeId × Value → H) : ∃ places, DataW.whole enc Try.prog ((World.holding Try.prog os ⟨#[], #[], []⟩).forCall (fun _ _ => 0) ⟨#[], #[Value.int .i64 0, Value.slice none 0 0], []⟩).memory Try.f3.params.toList Rows.diffSolvesSpec.vars false #[Value.int .i64 0, Value.slice none 0 0].toList 8 = some ([.lit (.int .i64 0), .nil], [], places) :=
  ⟨[], by kernel_rfl⟩

set_option maxRecDepth 100000 in
theorem diffSolves_lifted (os : Os) (started : os.Started) (H : Type) (enc : TypeId × Value → H) (F : Stop.Interp) :
    ReturnsInHanded {} Try.checked os 3 .any ((OpenSpec.ofChange Rows.diffSolvesSpec).preRow enc Try.prog Try.f3 Rows.diffSolvesRow.domain false Rows.diffSolvesRow.laid) (((OpenSpec.ofChange Rows.diffSolvesSpec).at F).post enc Try.prog Try.f3 false true false false) := by
  obtain ⟨places, hx⟩ := diffSolves_reads os enc
  refine returnsInHanded_of_row (C := Try.checked) (s := OpenSpec.ofChange Rows.diffSolvesSpec) own started (by kernel_rfl) Try.func3
    (witness_row_at (enc := enc) (C := Try.checked) false (World.holding Try.prog os ⟨#[], #[], []⟩) #[Value.int .i64 0, Value.slice none 0 0] rfl (by kernel_rfl) (by kernel_rfl) (by kernel_rfl)
      (OpenSpec.preRow_of_cond 8 hx (by kernel_rfl) (fun k hk => by cases hk) (by kernel_rfl) (laidMet_of_run' 8 (by kernel_rfl) (by kernel_rfl)))) ?_
  intro W base args ds gs before hval hW _ _ hreach _ _ _
  exact intFacts_contract Try.params3 (by kernel_rfl) rfl (fun _ _ => rfl) diffSolves_walk W base args ds gs before hval hW hreach

theorem diffSolves_said : Rows.DiffSolvesSaid :=
  OpenClaim.holds_of_cond 3 Try.f3 rfl rfl rfl rfl rfl rfl rfl ⟨rfl, rfl, rfl, rfl, rfl⟩ rfl rfl rfl rfl rfl (by kernel_rfl) Try.func3 (by kernel_rfl)
    (of_decide_eq_true (by kernel_rfl)) (by unfold Func.isWrapper; first | (rw [if_pos (by decide +kernel)]; kernel_rfl) | (rw [if_neg (by decide +kernel)]; exact ⟨rfl, rfl⟩))
    (fun os started H enc _ F => by rw [OpenClaim.pre_eq_preRow]; exact diffSolves_lifted os started H enc F)

end Go.Proofs.Ytpoohappocehdaa
