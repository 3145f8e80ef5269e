/- Proved here: for every list of numbers and list of facts that lychgatelaw05.CertHolds is called with, in every memory, the call returns true and its arguments read as before. No conditions. -/
import Derived.Test.YtooogmppfjgdpaaCClose
namespace Go.Proofs.Ytooogmppfjgdpaa
open Go.ChangeShapes Go.WideShapes Go.ChangeAt Go.RowKit

theorem refHolds_own (fs : List F) (A : Option Addr) (cap k : Nat) (l : List Int) (AF : Option Addr) (capF : Nat) (w : World) {base : Nat} {t : TypeId} (hk : k = fs.length) (hown : w.ownsRow base t 3 (.slice AF k capF) k (factCells fs)) (hls : NumsAt w w.heap.size A l) (hll : l.length ≤ maxLen) :
    Calls Try.prog 14 #[.slice A l.length cap, .slice AF k capF] w fun e w' => e = .returned (.bool (holdsB l fs)) ∧ Below w.heap.size w w' := by
  subst hk
  obtain ⟨A', cap', hv, h1, h2⟩ := own_slice hown
  cases hv
  exact refHolds_any l A cap AF capF fs w hls hll (FactsAt.of_own hown) (Nat.le_trans h1 h2)

set_option maxHeartbeats 4000000 in
theorem certHolds_walk (A : Option Addr) (cap : Nat) (l : List Int) (AF : Option Addr) (capF : Nat) (fs : List F) (w : World) (hls : NumsAt w w.heap.size A l) (hll : l.length ≤ cap) (hlm : cap ≤ maxLen) (_ : cap * 8 ≤ 140737488351232) (hfs : FactsAt w w.heap.size AF fs) (hcap : fs.length ≤ capF) (hcm : capF ≤ maxLen) (hby : capF * 24 ≤ 140737488351232) :
    Calls Try.prog 4 #[.slice A l.length cap, .slice AF fs.length capF] w fun e w' => e = .returned (.bool true) ∧ Below w.heap.size w w' := by
  have HF := Lib.hid hfs
  have HL := Lib.hid hls
  clear hfs hls
  go_enter Try.func4, Try.ntmps4
  go_wp2_with fail
  refine (wakes_any _).mono ?_
  rintro e w1 ⟨rfl, hb1⟩
  have HB1 := Lib.hid hb1
  clear hb1
  go_wp2_with fail
  refine (holds_any l A cap AF capF fs _ ((HL.out.below HB1.out (Nat.le_refl _)).more HB1.out.size) (Nat.le_trans hll hlm) ((HF.out.below HB1.out (Nat.le_refl _)).more HB1.out.size) (Nat.le_trans hcap hcm)).mono ?_
  rintro e w2 ⟨rfl, hb2⟩
  have HB2 := Lib.hid (HB1.out.trans (hb2.mono HB1.out.size))
  clear hb2
  go_wp2_with fail
  refine (refs_any AF capF fs _ ((HF.out.below HB2.out (Nat.le_refl _)).more HB2.out.size) (Nat.le_trans hcap hcm) (by omega)).mono ?_
  rintro e w3 ⟨A3, c3, rfl, hown3, hb3⟩
  have HB3 := Lib.hid (HB2.out.trans (hb3.mono HB2.out.size))
  have HO := Lib.hid hown3
  clear hown3 hb3
  go_wp2_with fail
  refine (refHolds_own fs A cap _ l A3 c3 _ rfl HO.out ((HL.out.below HB3.out (Nat.le_refl _)).more HB3.out.size) (Nat.le_trans hll hlm)).mono ?_
  rintro e w4 ⟨rfl, hb4⟩
  have HB4 := Lib.hid (HB3.out.trans (hb4.mono HB3.out.size))
  clear hb4
  go_wp2
  go_ret
  exact ⟨by simp, HB4.out⟩

theorem certHolds_reads (os : Os) {H : Type} (enc : TypeId × Value → H) : ∃ places, DataW.whole enc Try.prog ((World.holding Try.prog os ⟨#[], #[], []⟩).forCall (fun _ _ => 0) ⟨#[], #[Value.slice none 0 0, Value.slice none 0 0], []⟩).memory Try.f4.params.toList Rows.certHoldsSpec.vars false #[Value.slice none 0 0, Value.slice none 0 0].toList 8 = some ([.nil, .nil], [], places) :=
  ⟨[], by kernel_rfl⟩

set_option maxRecDepth 100000 in
theorem certHolds_lifted (os : Os) (started : os.Started) (H : Type) (enc : TypeId × Value → H) (F : Stop.Interp) :
    ReturnsInHanded {} Try.checked os 4 .any ((OpenSpec.ofChange Rows.certHoldsSpec).preRow enc Try.prog Try.f4 Rows.certHoldsRow.domain false Rows.certHoldsRow.laid) (((OpenSpec.ofChange Rows.certHoldsSpec).at F).post enc Try.prog Try.f4 false true false false) := by
  obtain ⟨places, hx⟩ := certHolds_reads os enc
  refine returnsInHanded_of_row (C := Try.checked) (s := OpenSpec.ofChange Rows.certHoldsSpec) own started (by kernel_rfl) Try.func4
    (witness_row_at (enc := enc) (C := Try.checked) false (World.holding Try.prog os ⟨#[], #[], []⟩) #[Value.slice none 0 0, Value.slice none 0 0] rfl (by kernel_rfl) (by kernel_rfl) (by kernel_rfl)
      (OpenSpec.preRow_of_cond 8 hx (by kernel_rfl) (fun k hk => by cases hk) (by kernel_rfl) (laidMet_of_run' 8 (by kernel_rfl) (by kernel_rfl)))) ?_
  intro W base args ds gs before hval hW _ _ hreach _ _ _
  exact numsFacts_contract Try.params4 (by kernel_rfl) rfl (fun _ _ => rfl) certHolds_walk W base args ds gs before hval hW hreach

theorem certHolds_said : Rows.CertHoldsSaid :=
  OpenClaim.holds_of_cond 4 Try.f4 rfl rfl rfl rfl rfl rfl rfl ⟨rfl, rfl, rfl, rfl, rfl⟩ rfl rfl rfl rfl rfl (by kernel_rfl) Try.func4 (by kernel_rfl)
    (of_decide_eq_true (by kernel_rfl)) (by unfold Func.isWrapper; first | (rw [if_pos (by decide +kernel)]; kernel_rfl) | (rw [if_neg (by decide +kernel)]; exact ⟨rfl, rfl⟩))
    (fun os started H enc _ F => by rw [OpenClaim.pre_eq_preRow]; exact certHolds_lifted os started H enc F)

end Go.Proofs.Ytooogmppfjgdpaa
