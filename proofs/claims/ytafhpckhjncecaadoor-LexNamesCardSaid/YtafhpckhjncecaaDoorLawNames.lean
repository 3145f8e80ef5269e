/- Proved here: for every text that lychgatelaw01.LexNames is called with, in every memory in which lex's tables stand as the program's text lays them, the call returns true and the text reads as before. Conditions: the package-level tables lex.keys, lex.blanks and lex.pairs hold what their initialisers lay (the card ties them to the program's text). -/
import Derived.Test.YtafhpckhjncecaaDoorTabs
namespace Go.Proofs.YtafhpckhjncecaaDoor
open Go.ChangeShapes Go.WideShapes Go.ChangeAt Go.RowKit

theorem name_not_key (s : ByteArray) (h : isNameB s = true) : isKeyB s = false := by
  unfold isNameB at h
  simp only [Bool.and_eq_true] at h
  simpa using h.2

set_option maxHeartbeats 1000000 in
theorem lexNames_walk (s : ByteArray) (w : World) (hs : s.size ≤ maxLen) (ht : Tabs w) :
    Calls Tryd.prog 4 #[.string s] w fun e w' => e = .returned (.bool true) ∧ Below w.heap.size w w' := by
  cases hn : isNameB s <;> cases hk : isKeyB s
  case true.true => have := name_not_key s hn; rw [hk] at this; cases this
  all_goals
    go_enter Tryd.func4, Tryd.ntmps4
    go_wp2_with fail
    refine (wakes_any w ht).mono ?_
    rintro e w1 ⟨rfl, hb⟩
    have ht1 := ht.below hb ht.size
    have HB := Lib.hid hb
    clear hb
    go_wp2_with (first
      | (go_at_call 14; refine (isName_any s w1 hs ht1).mono ?_; rintro e w' ⟨rfl, rfl⟩)
      | (go_at_call 15; refine (refIsName_any s w1 hs).mono ?_; rintro e w' ⟨rfl, rfl⟩)
      | (go_at_call 16; refine (isKey_any s w1 ht1).mono ?_; rintro e w' ⟨rfl, rfl⟩)
      | (go_at_call 17; refine (refIsKey_any s w1).mono ?_; rintro e w' ⟨rfl, rfl⟩))
    go_ret
    exact ⟨rfl, HB.out⟩

theorem lexNames_reads (os : Os) {H : Type} (enc : TypeId × Value → H) : ∃ places, DataW.whole enc Tryd.prog ((laidWorld os).forCall (fun _ _ => 0) ⟨#[], #[.string ⟨#[]⟩], []⟩).memory Tryd.f4.params.toList Rows.lexNamesSpec.vars false #[Value.string ⟨#[]⟩].toList 8 = some ([.lit (.string [])], [], places) :=
  ⟨[], by kernel_rfl⟩

set_option maxRecDepth 100000 in
theorem lexNames_lifted (os : Os) (started : os.Started) (H : Type) (enc : TypeId × Value → H) (F : Stop.Interp) :
    ReturnsInHanded {} Tryd.checked os 4 .any ((OpenSpec.ofChange Rows.lexNamesSpec).preRow enc Tryd.prog Tryd.f4 Rows.lexNamesRow.domain false Rows.lexNamesRow.laid) (((OpenSpec.ofChange Rows.lexNamesSpec).at F).post enc Tryd.prog Tryd.f4 false true false false) := by
  obtain ⟨places, hx⟩ := lexNames_reads os enc
  refine returnsInHanded_of_row (C := Tryd.checked) (s := OpenSpec.ofChange Rows.lexNamesSpec) own started (by kernel_rfl) Tryd.func4
    (witness_row_at (enc := enc) (C := Tryd.checked) false (laidWorld os) #[.string ⟨#[]⟩] rfl (by kernel_rfl) (by kernel_rfl) (by kernel_rfl)
      (OpenSpec.preRow_of_cond 8 hx (by kernel_rfl) (fun k hk => by cases hk) (by kernel_rfl) (laid_met_text os))) ?_
  intro W base args ds gs before hval hW _ _ _ hL _ _
  exact text_contract Tryd.params4 (by kernel_rfl) rfl (fun _ => rfl) lexNames_walk W base args ds gs before hval hW hL

theorem lexNames_said : Rows.LexNamesSaid :=
  OpenClaim.holds_of_cond 4 Tryd.f4 rfl rfl rfl rfl rfl rfl rfl ⟨rfl, rfl, rfl, rfl, rfl⟩ rfl rfl rfl rfl rfl (by kernel_rfl) Tryd.func4 (by kernel_rfl)
    (of_decide_eq_true (by kernel_rfl)) (by unfold Func.isWrapper; first | (rw [if_pos (by decide +kernel)]; kernel_rfl) | (rw [if_neg (by decide +kernel)]; exact ⟨rfl, rfl⟩))
    (fun os started H enc _ F => by rw [OpenClaim.pre_eq_preRow]; exact lexNames_lifted os started H enc F)

theorem lexNames_plain (f : FuncId) (fn : Func) (hf : Tryd.pinned.checked.prog.funcNamed "lychgate/lychgatelaw01.LexNames" = some f) (hfn : Tryd.pinned.checked.prog.funcs[f]? = some fn) :
    false = Tryd.pinned.checked.prog.looks [] ∧ ∀ (j : Nat) t, fn.params[j]? = some t → Tryd.pinned.checked.prog.wantsStandIn t = false := by
  obtain rfl : f = 4 := Option.some.inj ((show Tryd.prog.funcNamed "lychgate/lychgatelaw01.LexNames" = some 4 by kernel_rfl).symm.trans hf) |>.symm
  obtain rfl : fn = Tryd.f4 := (Option.some.inj (Tryd.func4.symm.trans hfn)).symm
  refine ⟨by kernel_rfl, fun j t ht => ?_⟩
  rw [Tryd.params4] at ht
  obtain rfl : t = 9 := by simpa using Array.mem_of_getElem? ht
  exact (show Tryd.prog.wantsStandIn 9 = false by kernel_rfl)

theorem lexNames_card : Rows.LexNamesCardSaid :=
  Claim7.holds_tied_plain_at .later [] _ _ _ _ lexNames_said (fun _ h => by cases h) (by kernel_rfl) (fun _ h => by cases h) lexNames_row_tie rfl ⟨rfl, rfl⟩ (by kernel_rfl) rfl lexNames_plain (by kernel_rfl)

end Go.Proofs.YtafhpckhjncecaaDoor
