/- Proved here: for every number, fact and list of facts that lychgatelaw05.CertProves is called with, in every memory, the call returns true and its arguments read as before. No conditions. -/
import Derived.Test.YtooogmppfjgdpaaCClose
import Derived.Test.YtooogmppfjgdpaaCProve
namespace Go.Proofs.Ytooogmppfjgdpaa
open Go.ChangeShapes Go.WideShapes Go.ChangeAt Go.RowKit

set_option maxHeartbeats 4000000 in
theorem certProves_walk (n : Int) (g : F) (A : Option Addr) (cap : Nat) (fs : List F) (w : World) (hfs : FactsAt w w.heap.size A fs) (hcap : fs.length ≤ cap) (hcm : cap ≤ maxLen) (_ : cap * 24 ≤ 140737488351232) :
    Calls Try.prog 5 #[.int .i64 n, .agg #[.int .i64 g.x, .int .i64 g.y, .int .i64 g.c], .slice A fs.length cap] w fun e w' => e = .returned (.bool true) ∧ Below w.heap.size w w' := by
  have HF := Lib.hid hfs
  clear hfs
  go_enter Try.func5, Try.ntmps5
  go_wp2_with fail
  refine (prove_any n g A cap fs _ ((HF.out.below (B' := w.heap.size) ((Below.refl _ _).alloc (Nat.le_refl _) _) (Nat.le_refl _)).more (by simp)) hcap hcm).mono ?_
  rintro e w1 ⟨p, AC, cC, AN, cN, rfl, hp, hp0, hp1, hb1⟩
  have HG1 := Lib.hid ((Blk.new w [.int .i64 g.x, .int .i64 g.y, .int .i64 g.c] 35).below hb1 (by simp))
  have HB1 := Lib.hid (((Below.refl w.heap.size w).alloc (Nat.le_refl _) _).trans (hb1.mono (by simp)))
  have hw1 : w.heap.size < w1.heap.size := HG1.out.lt
  have g0 := HG1.out.cell 0
  have g1 := HG1.out.cell 1
  have g2 := HG1.out.cell 2
  simp only [List.getElem?_cons_zero, List.getElem?_cons_succ] at g0 g1 g2
  have HP := Lib.hid hp
  have HP0 := Lib.hid hp0
  have HP1 := Lib.hid hp1
  clear hb1 hp hp0 hp1
  go_wp2_with fail
  have HB1b := Lib.hid (HB1.out.alloc (Nat.le_of_lt hw1) (.cells #[.bool p.yes, .slice AC p.cyc.length cC, .slice AN p.nums.length cN] 37))
  refine (entails_any n g A cap fs _ ((HF.out.below HB1b.out (Nat.le_refl _)).more HB1b.out.size) hcap hcm).mono ?_
  rintro e w2 ⟨ra, rfl, hra0, hra1, hb2⟩
  have HK2 := Lib.hid ((Blk.new w1 [.bool p.yes, .slice AC p.cyc.length cC, .slice AN p.nums.length cN] 37).below hb2 (by simp))
  have HG2 := Lib.hid ((HG1.out.alloc _).below hb2 (by simp; omega))
  have HB2 := Lib.hid (HB1b.out.trans (hb2.mono HB1b.out.size))
  have HPB := Lib.hid ((HP.out.below ((Below.refl w1.heap.size w1).alloc (Nat.le_refl _) _)).below hb2)
  have HRA1 := Lib.hid hra1
  clear hra0 hra1 hb2 g0 g1 g2
  go_wp2_with fail
  refine (wakes_any _).mono ?_
  rintro e w3 ⟨rfl, hb3⟩
  have HB3 := Lib.hid (HB2.out.trans (hb3.mono HB2.out.size))
  have HK3 := Lib.hid (HK2.out.below hb3 HK2.out.lt)
  have HG3 := Lib.hid (HG2.out.below hb3 HG2.out.lt)
  have HPC := Lib.hid (HPB.out.below hb3)
  have g0 := HG3.out.cell 0
  have g1 := HG3.out.cell 1
  have g2 := HG3.out.cell 2
  have p0 := HK3.out.cell 0
  have p1 := HK3.out.cell 1
  have p2 := HK3.out.cell 2
  simp only [List.getElem?_cons_zero, List.getElem?_cons_succ] at g0 g1 g2 p0 p1 p2
  clear hb3
  by_cases hE : entB n g fs = 0
  · obtain ⟨hck, hyes⟩ := HP1.out hE
    have hra := HRA1.out hE
    have HCK := Lib.hid hck
    obtain rfl : ra = p.yes := by
      cases ra
      · cases hy : p.yes
        · rfl
        · exact absurd (hra.2 (hyes.1 hy)) (by simp)
      · exact (hyes.2 (hra.1 rfl)).symm
    have t1 : (p.yes == p.yes) = true := by simp
    rw [hE]
    clear hck hyes hra hE HP0 HP1 HRA1
    go_wp2_with fail
    refine (check_any p AC cC AN cN n g A cap fs _ HPC.out ((HF.out.below HB3.out (Nat.le_refl _)).more HB3.out.size) (Nat.le_trans hcap hcm)).mono ?_
    rintro e w4 ⟨r, rfl, hr, hb4⟩
    obtain rfl : r = true := hr.2 HCK.out
    have HB4 := Lib.hid (HB3.out.trans (hb4.mono HB3.out.size))
    clear hr hb4
    go_wp2
    go_ret
    exact ⟨rfl, HB4.out⟩
  · obtain ⟨hy, hc0, hn0⟩ := HP0.out hE
    obtain ⟨yes, cyc, nums⟩ := p
    obtain rfl : yes = false := hy
    obtain rfl : cyc = [] := List.eq_nil_of_length_eq_zero hc0
    obtain rfl : nums = [] := List.eq_nil_of_length_eq_zero hn0
    simp only [List.length_nil] at p0 p1 p2
    have t1 : (entB n g fs != 0) = true := by simpa using hE
    have t2 : (entB n g fs == 0) = false := by simpa using hE
    have t3 : (entB n g fs != entB n g fs) = false := by simp
    generalize entB n g fs = cd at *
    clear hE HP0 HP1 HRA1
    go_wp2
    go_ret
    exact ⟨by first | rfl | simp, HB3.out⟩

theorem certProves_reads (os : Os) {H : Type} (enc : TypeId × Value → H) : ∃ places, DataW.whole enc Try.prog ((World.holding Try.prog os ⟨#[], #[], []⟩).forCall (fun _ _ => 0) ⟨#[], #[Value.int .i64 0, Value.agg #[.int .i64 0, .int .i64 0, .int .i64 0], Value.slice none 0 0], []⟩).memory Try.f5.params.toList Rows.certProvesSpec.vars false #[Value.int .i64 0, Value.agg #[.int .i64 0, .int .i64 0, .int .i64 0], Value.slice none 0 0].toList 8 = some ([.lit (.int .i64 0), .agg [.lit (.int .i64 0), .lit (.int .i64 0), .lit (.int .i64 0)], .nil], [], places) :=
  ⟨[], by kernel_rfl⟩

set_option maxRecDepth 100000 in
theorem certProves_lifted (os : Os) (started : os.Started) (H : Type) (enc : TypeId × Value → H) (F : Stop.Interp) :
    ReturnsInHanded {} Try.checked os 5 .any ((OpenSpec.ofChange Rows.certProvesSpec).preRow enc Try.prog Try.f5 Rows.certProvesRow.domain false Rows.certProvesRow.laid) (((OpenSpec.ofChange Rows.certProvesSpec).at F).post enc Try.prog Try.f5 false true false false) := by
  obtain ⟨places, hx⟩ := certProves_reads os enc
  refine returnsInHanded_of_row (C := Try.checked) (s := OpenSpec.ofChange Rows.certProvesSpec) own started (by kernel_rfl) Try.func5
    (witness_row_at (enc := enc) (C := Try.checked) false (World.holding Try.prog os ⟨#[], #[], []⟩) #[Value.int .i64 0, Value.agg #[.int .i64 0, .int .i64 0, .int .i64 0], Value.slice none 0 0] rfl (by kernel_rfl) (by kernel_rfl) (by kernel_rfl)
      (OpenSpec.preRow_of_cond 8 hx (by kernel_rfl) (fun k hk => by cases hk) (by kernel_rfl) (laidMet_of_run' 8 (by kernel_rfl) (by kernel_rfl)))) ?_
  intro W base args ds gs before hval hW _ _ hreach _ _ _
  exact intLeqFacts_contract Try.params5 (by kernel_rfl) rfl (fun _ _ _ => rfl) certProves_walk W base args ds gs before hval hW hreach

theorem certProves_said : Rows.CertProvesSaid :=
  OpenClaim.holds_of_cond 5 Try.f5 rfl rfl rfl rfl rfl rfl rfl ⟨rfl, rfl, rfl, rfl, rfl⟩ rfl rfl rfl rfl rfl (by kernel_rfl) Try.func5 (by kernel_rfl)
    (of_decide_eq_true (by kernel_rfl)) (by unfold Func.isWrapper; first | (rw [if_pos (by decide +kernel)]; kernel_rfl) | (rw [if_neg (by decide +kernel)]; exact ⟨rfl, rfl⟩))
    (fun os started H enc _ F => by rw [OpenClaim.pre_eq_preRow]; exact certProves_lifted os started H enc F)

end Go.Proofs.Ytooogmppfjgdpaa
