/- Proved here: for every number and every list of facts that lychgatelaw04.DiffHolds is called with, in every memory, the call returns true and its arguments read as before. No conditions. -/
import Derived.Test.YtpoohappocehdaaDClose
namespace Go.Proofs.Ytpoohappocehdaa
open Go.ChangeShapes Go.WideShapes Go.ChangeAt Go.RowKit

theorem plain_hold {n : Nat} {fs : List F} {l : List Int} (h : Plain n fs l) (fit : FitS n fs) {f : F} (hf : f ∈ fs) : l.getD f.x.toNat 0 - l.getD f.y.toNat 0 ≤ f.c := by
  obtain ⟨_, _, v, hv, e⟩ := h
  have ft := fit.fit f hf
  have h1 := ft.x0; have h2 := ft.xn; have h3 := ft.y0; have h4 := ft.yn
  rw [e _ (show f.x.toNat < n by omega), e _ (show f.y.toNat < n by omega)]
  have := hv.sol f hf
  unfold Hold at this
  omega

theorem plain_zero {n : Nat} {fs : List F} {l : List Int} (h : Plain n fs l) (hn : 1 ≤ n) : l.getD 0 0 = 0 := by
  obtain ⟨_, _, v, hv, e⟩ := h
  rw [e 0 (by omega)]
  omega

set_option maxHeartbeats 4000000 in
theorem diffHolds_walk (n : Int) (A : Option Addr) (cap : Nat) (fs : List F) (w : World) (hfs : FactsAt w w.heap.size A fs) (hcap : fs.length ≤ cap) (hcm : cap ≤ maxLen) (_hby : cap * 24 ≤ 140737488351232) :
    Calls Try.prog 5 #[.int .i64 n, .slice A fs.length cap] w fun e w' => e = .returned (.bool true) ∧ Below w.heap.size w w' := by
  have HF := Lib.hid hfs
  clear hfs
  by_cases hr : refuseB n fs = 0
  · obtain ⟨m, rfl, fit⟩ := refuse_ok hr
    have hn1 := fit.n1
    have hn2 := fit.n2
    have hlen := fit.len
    have HFIT := Lib.hid fit
    clear hr fit
    go_enter Try.func5, Try.ntmps5
    go_wp2_with fail
    refine (solve_ok m A cap fs w HF.out HFIT.out).mono ?_
    rintro e w1 ⟨hb, ⟨l, g, hp, rfl, hg, hblk⟩ | ⟨v, c, hc, hl, rfl, hown⟩⟩
    · have HB := Lib.hid hb
      have HP := Lib.hid hp
      have HG := Lib.hid hg
      have HK := Lib.hid hblk
      clear hb hp hg hblk
      go_wp2_with fail
      refine (wakes_any w1).mono ?_
      rintro e w2 ⟨rfl, hb2⟩
      have HB2 := Lib.hid (HB.out.trans (hb2.mono HB.out.size))
      have HK2 := Lib.hid (HK.out.below hb2 HK.out.lt)
      have hll : l.length = m := HP.out.1
      have c0 := (HK2.out.cell 0).trans (intsGet l 0 (by omega))
      rw [plain_zero HP.out hn1] at c0
      have t0 : ((m : Int) == 0) = false := by simp; omega
      have t1 : ((m : Int) != (m : Int)) = false := by simp
      have hm0 : (0 : Int) < (m : Int) := by omega
      have hgl := HK2.out.lt
      clear hb2
      go_wp2
      go_loopw [47] (fun i wr => ∃ k : Nat, k ≤ fs.length ∧ i = .int .i64 k ∧ Below w2.heap.size w2 wr) (fun i _ => fs.length - (intOf i).toNat)
      case atStart => exact ⟨0, by omega, rfl, Below.refl _ _⟩
      case round =>
        obtain ⟨k, hk, rfl, hbr⟩ := hrel
        by_cases hlt : k < fs.length
        · obtain ⟨b, off, hA, hbl, hcl⟩ := HF.out (by omega)
          obtain ⟨f, hf⟩ : ∃ f, fs[k]? = some f := ⟨_, List.getElem?_eq_getElem hlt⟩
          have hh := plain_hold HP.out HFIT.out (List.mem_of_getElem? hf)
          have ft := HFIT.out.fit f (List.mem_of_getElem? hf)
          obtain ⟨f0, f1, f2⟩ := hcl k f hf
          have hb3 : Below w.heap.size w wr := HB2.out.trans (hbr.mono HB2.out.size)
          replace f0 := (hb3.cell (p := ⟨b, off + k * 3, none⟩) hbl).trans f0
          replace f1 := (hb3.cell (p := ⟨b, off + k * 3 + 1, none⟩) hbl).trans f1
          replace f2 := (hb3.cell (p := ⟨b, off + k * 3 + 2, none⟩) hbl).trans f2
          obtain ⟨x0, xn, y0, yn, _, _⟩ := ft
          obtain ⟨fx, fy, fc⟩ := f
          simp only at x0 xn y0 yn f0 f1 f2 hh
          obtain ⟨x, rfl⟩ := Int.eq_ofNat_of_zero_le x0
          obtain ⟨y, rfl⟩ := Int.eq_ofNat_of_zero_le y0
          simp only [Int.toNat_natCast] at hh
          have cx := (hbr.cell (p := ⟨g, x, none⟩) hgl).trans ((HK2.out.cell x).trans (intsGet l x (by omega)))
          have cy := (hbr.cell (p := ⟨g, y, none⟩) hgl).trans ((HK2.out.cell y).trans (intsGet l y (by omega)))
          have bx := HP.out.2.1 x (by omega)
          have by' := HP.out.2.1 y (by omega)
          generalize l.getD x 0 = ax at *
          generalize l.getD y 0 = ay at *
          have hsub : IntKind.i64.wrap (ax - ay) = ax - ay := IntWalk.i64_in _ (by omega)
          have hgw : g < wr.heap.size := Nat.lt_of_lt_of_le hgl hbr.size
          have hbw : b < wr.heap.size := Nat.lt_of_lt_of_le hbl hb3.size
          have tle : decide (fc < ax - ay) = false := by simp; omega
          have HBR := Lib.hid hbr
          have HLL := Lib.hid hll
          have hz := hbr.size
          subst hA
          clear hbr hb3 hcl hf hh hll
          go_wp2_with fail
          go_quiet (fail)
          clear hsub
          go_wp2
          go_roundw
          case rel => exact ⟨k + 1, by omega, by go_num, below_drewN (HBR.out.alloc hz _) _⟩
          case measure => simp [intOf]; omega
        · go_wp2
          go_ret
          exact ⟨rfl, HB2.out.trans (hbr.mono HB2.out.size)⟩
    · have HB := Lib.hid hb
      have HC := Lib.hid hc
      obtain ⟨g, c2, rfl, _, _⟩ := hown.form hc.ne
      have HO := Lib.hid hown
      clear hb hc hown
      go_wp2_with fail
      refine (wakes_any w1).mono ?_
      rintro e w2 ⟨rfl, hb2⟩
      have HB2 := Lib.hid (HB.out.trans (hb2.mono HB.out.size))
      have HO2 := Lib.hid (own_below HO.out hb2)
      clear hb2
      go_wp2_with fail
      refine (lawCircle_any A _ cap c2 m fs c w2 ((HF.out.below HB2.out (Nat.le_refl _)).more HB2.out.size) (NumsAt.of_own HO2.out) HC.out (by omega) HFIT.out.fit hlen).mono ?_
      rintro e w3 ⟨rfl, hb3⟩
      have HB3 := Lib.hid (HB2.out.trans (hb3.mono HB2.out.size))
      clear hb3
      go_wp2
      go_ret
      exact ⟨rfl, HB3.out⟩
  · have t1 : (refuseB n fs != 0) = true := by simpa using hr
    have HR := Lib.hid hr
    clear hr
    go_enter Try.func5, Try.ntmps5
    go_wp2_with fail
    refine (solve_no n A cap fs w HF.out (Nat.le_trans hcap hcm) HR.out).mono ?_
    generalize refuseB n fs = cd at *
    rintro e w1 ⟨rfl, hb⟩
    have HB := Lib.hid hb
    clear hb HR
    go_wp2_with fail
    refine (wakes_any w1).mono ?_
    rintro e w2 ⟨rfl, hb2⟩
    have HB2 := Lib.hid (HB.out.trans (hb2.mono HB.out.size))
    clear hb2
    go_wp2_with fail
    refine (wakes_any w2).mono ?_
    rintro e w3 ⟨rfl, hb3⟩
    have HB3 := Lib.hid (HB2.out.trans (hb3.mono HB2.out.size))
    clear hb3
    go_wp2
    go_ret
    exact ⟨rfl, HB3.out⟩

theorem diffHolds_reads (os : Os) {H : Type} (enc : TypeId × Value → H) : ∃ places, DataW.whole enc Try.prog ((World.holding Try.prog os ⟨#[], #[], []⟩).forCall (fun _ _ => 0) ⟨#[], #[Value.int .i64 0, Value.slice none 0 0], []⟩).memory Try.f5.params.toList Rows.diffHoldsSpec.vars false #[Value.int .i64 0, Value.slice none 0 0].toList 8 = some ([.lit (.int .i64 0), .nil], [], places) :=
  ⟨[], by kernel_rfl⟩

set_option maxRecDepth 100000 in
theorem diffHolds_lifted (os : Os) (started : os.Started) (H : Type) (enc : TypeId × Value → H) (F : Stop.Interp) :
    ReturnsInHanded {} Try.checked os 5 .any ((OpenSpec.ofChange Rows.diffHoldsSpec).preRow enc Try.prog Try.f5 Rows.diffHoldsRow.domain false Rows.diffHoldsRow.laid) (((OpenSpec.ofChange Rows.diffHoldsSpec).at F).post enc Try.prog Try.f5 false true false false) := by
  obtain ⟨places, hx⟩ := diffHolds_reads os enc
  refine returnsInHanded_of_row (C := Try.checked) (s := OpenSpec.ofChange Rows.diffHoldsSpec) own started (by kernel_rfl) Try.func5
    (witness_row_at (enc := enc) (C := Try.checked) false (World.holding Try.prog os ⟨#[], #[], []⟩) #[Value.int .i64 0, Value.slice none 0 0] rfl (by kernel_rfl) (by kernel_rfl) (by kernel_rfl)
      (OpenSpec.preRow_of_cond 8 hx (by kernel_rfl) (fun k hk => by cases hk) (by kernel_rfl) (laidMet_of_run' 8 (by kernel_rfl) (by kernel_rfl)))) ?_
  intro W base args ds gs before hval hW _ _ hreach _ _ _
  exact intFacts_contract Try.params5 (by kernel_rfl) rfl (fun _ _ => rfl) diffHolds_walk W base args ds gs before hval hW hreach

theorem diffHolds_said : Rows.DiffHoldsSaid :=
  OpenClaim.holds_of_cond 5 Try.f5 rfl rfl rfl rfl rfl rfl rfl ⟨rfl, rfl, rfl, rfl, rfl⟩ rfl rfl rfl rfl rfl (by kernel_rfl) Try.func5 (by kernel_rfl)
    (of_decide_eq_true (by kernel_rfl)) (by unfold Func.isWrapper; first | (rw [if_pos (by decide +kernel)]; kernel_rfl) | (rw [if_neg (by decide +kernel)]; exact ⟨rfl, rfl⟩))
    (fun os started H enc _ F => by rw [OpenClaim.pre_eq_preRow]; exact diffHolds_lifted os started H enc F)

end Go.Proofs.Ytpoohappocehdaa
