/- MemPlays holds: every answer of every script of calls is the document's, and all blocks behind each call. No conditions. -/
import Derived.Test.YtnjndggdnmboeaaMClose3
import Derived.Test.YtnjndggdnmboeaaMSame
import Derived.Test.YtnjndggdnmboeaaMBlocks2
import Derived.Test.YtnjndggdnmboeaaMWakes
namespace Go.Proofs.Ytnjndggdnmboeaa
open Go.ChangeShapes Go.WideShapes Go.ChangeAt Go.RowKit

def unitT : Thing where
  P _ _ := True
  stay := fun _ _ _ => trivial
  more := fun _ _ => trivial
theorem Sep.unit {w W : World} {l : List Thing} (h : Sep w W l) : Sep w W (l ++ [unitT]) := h.add (Below.refl _ _) unitT trivial
theorem rd_nil (N : Int) : Rd [] N := by intro b hb; simp at hb

set_option maxRecDepth 100000 in
set_option maxHeartbeats 4000000 in
theorem memPlays_walk (A : Option Addr) (cap : Nat) (l : List MO) (w : World) (hl : OpsAt w w.heap.size A l) (_ : l.length ≤ cap) (_ : cap ≤ maxLen) :
    Calls Try.prog 3 #[.slice A l.length cap] w fun e w' => e = .returned (.bool true) ∧ Below w.heap.size w w' := by
  obtain ⟨N, hN, hN1, hN2⟩ : ∃ N : Nat, (if (300 : Int) < (l.length : Int) then (300 : Int) else (l.length : Int)) = (N : Int) ∧ N ≤ 300 ∧ N ≤ l.length := by
    by_cases h : (300 : Int) < (l.length : Int)
    · exact ⟨300, by rw [if_pos h]; rfl, by omega, by omega⟩
    · exact ⟨l.length, by rw [if_neg h], by omega, Nat.le_refl _⟩
  have HL := Lib.hid hl
  clear hl
  go_enter Try.func3, Try.ntmps3
  go_wp2_with fail
  ((with_reducible refine ((Sep.start w).newMem rfl).mono ?_); rintro e w1 ⟨rfl, hs⟩)
  have h2 := hs.newRef.unit
  generalize hwb : w.heap.size = b at h2 ⊢
  have H := Lib.hid h2
  clear hs h2
  go_wp2_with fail
  ((with_reducible refine (wakes_any _).mono ?_); rintro e w2 ⟨rfl, hb⟩)
  have H2 := Lib.hid (H.out.quiet hb)
  clear hb H
  generalize w1.heap.size = r at *
  go_wp2_with fail
  go_loopw [18] (fun i wr => ∃ (k : Nat) (s : MS), k ≤ N ∧ i = .int .i64 k ∧ Sep w wr [memT b s, refT r s, unitT] ∧ Rd s k) (fun i _ => N - (intOf i).toNat)
  case atStart => exact ⟨0, [], by omega, rfl, H2.out, rd_nil _⟩
  case round =>
    obtain ⟨k, s, hk, rfl, hs, hrd⟩ := hrel
    by_cases hkN : k < N
    · obtain ⟨o, ho⟩ : ∃ o, l[k]? = some o := ⟨_, List.getElem?_eq_getElem (by omega)⟩
      obtain ⟨fb, fo, rfl, fl, f0, f1, f2, f3, f4, f5, f6, f7⟩ := HL.out.at hs.below ho
      have hkN2 : (k : Int) < (N : Int) := by omega
      have HK := Lib.hid ho
      have hbx := hs.box (oCellsV o) 36
      have HR := Lib.hid hrd
      have H3 := Lib.hid hbx
      have hk3 : (k : Int) ≤ 1000000 := by omega
      clear hs hrd ho hbx H2
      go_wp2_with fail
      ((with_reducible refine (step_any (H3.out.take 3) o HR.out hk3).mono ?_); rintro e w3 ⟨rfl, hs⟩)
      have HR2 := Lib.hid (HR.out.step (by omega) o)
      have H4 := Lib.hid hs
      clear hs f0 f1 f2 f3 f4 f5 f6 f7 HR hk3
      generalize stepS s o = s2 at *
      obtain ⟨OM, hOM⟩ := H4.out.mem 0 rfl
      go_wp2_with fail
      ((with_reducible refine (blocks_any hOM).mono ?_); rintro e w4 ⟨g, qs, rfl, hbk, hb4⟩)
      have H5 := Lib.hid (H4.out.quiet hb4)
      have HBK := Lib.hid hbk
      clear hb4 hbk hOM
      go_wp2_with fail
      ((with_reducible refine (H5.out.used 0 rfl rfl).mono ?_); rintro e w5 ⟨rfl, rfl⟩)
      obtain ⟨OR, hOR⟩ := H5.out.ref 1 rfl
      go_wp2_with fail
      ((with_reducible refine (same_any HBK.out hOR).mono ?_); rintro e w6 ⟨rfl, hb6⟩)
      have H6 := Lib.hid (H5.out.quiet hb6)
      clear hb6 hOR
      go_wp2
      go_roundw
      case rel => exact ⟨k + 1, s2, by omega, by go_num, H6.out, HR2.out⟩
      case measure => simp [intOf]; omega
    · have HB := Lib.hid hs.below
      have hkN2 : ¬ (k : Int) < (N : Int) := by omega
      clear hs hrd
      go_wp2
      go_ret
      exact ⟨rfl, by rw [← hwb]; exact HB.out⟩
theorem memPlays_reads (os : Os) {H : Type} (enc : TypeId × Value → H) : ∃ places, DataW.whole enc Try.prog ((World.holding Try.prog os ⟨#[], #[], []⟩).forCall (fun _ _ => 0) ⟨#[], #[Value.slice none 0 0], []⟩).memory Try.f3.params.toList Rows.memPlaysSpec.vars false #[Value.slice none 0 0].toList 8 = some ([.nil], [], places) :=
  ⟨[], by kernel_rfl⟩

set_option maxRecDepth 100000 in
theorem memPlays_lifted (os : Os) (started : os.Started) (H : Type) (enc : TypeId × Value → H) (F : Stop.Interp) :
    ReturnsInHanded {} Try.checked os 3 .any ((OpenSpec.ofChange Rows.memPlaysSpec).preRow enc Try.prog Try.f3 Rows.memPlaysRow.domain false Rows.memPlaysRow.laid) (((OpenSpec.ofChange Rows.memPlaysSpec).at F).post enc Try.prog Try.f3 false true false false) := by
  obtain ⟨places, hx⟩ := memPlays_reads os enc
  refine returnsInHanded_of_row (C := Try.checked) (s := OpenSpec.ofChange Rows.memPlaysSpec) own started (by kernel_rfl) Try.func3
    (witness_row_at (enc := enc) (C := Try.checked) false (World.holding Try.prog os ⟨#[], #[], []⟩) #[Value.slice none 0 0] rfl (by kernel_rfl) (by kernel_rfl) (by kernel_rfl)
      (OpenSpec.preRow_of_cond 8 hx (by kernel_rfl) (fun k hk => by cases hk) (by kernel_rfl) (laidMet_of_run' 8 (by kernel_rfl) (by kernel_rfl)))) ?_
  intro W base args ds gs before hval hW _ _ hreach _ _ _
  exact ops_contract Try.params3 (by kernel_rfl) rfl (fun _ => rfl) memPlays_walk W base args ds gs before hval hW hreach

theorem memPlays_said : Rows.MemPlaysSaid :=
  OpenClaim.holds_of_cond 3 Try.f3 rfl rfl rfl rfl rfl rfl rfl ⟨rfl, rfl, rfl, rfl, rfl⟩ rfl rfl rfl rfl rfl (by kernel_rfl) Try.func3 (by kernel_rfl)
    (of_decide_eq_true (by kernel_rfl)) (by unfold Func.isWrapper; first | (rw [if_pos (by decide +kernel)]; kernel_rfl) | (rw [if_neg (by decide +kernel)]; exact ⟨rfl, rfl⟩))
    (fun os started H enc _ F => by rw [OpenClaim.pre_eq_preRow]; exact memPlays_lifted os started H enc F)

end Go.Proofs.Ytnjndggdnmboeaa
