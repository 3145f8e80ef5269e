/- Proved here: for every text that lychgatelaw01.LexFirst is called with, in every memory in which lex's tables stand as the program's text lays them, the call returns true and the text reads as before. Conditions: the package-level tables lex.keys, lex.blanks and lex.pairs hold what their initialisers lay (the card ties them to the program's text). -/
import Derived.Test.YtafhpckhjncecaaDoorTabs
import Derived.Test.YtafhpckhjncecaaDoorFirst
namespace Go.Proofs.YtafhpckhjncecaaDoor
open Go.ChangeShapes Go.WideShapes Go.ChangeAt Go.RowKit

set_option maxHeartbeats 1000000 in
theorem lexFirst_walk (s : ByteArray) (w : World) (hs : s.size ≤ maxLen) (ht : Tabs w) :
    Calls Tryd.prog 7 #[.string s] w fun e w' => e = .returned (.bool true) ∧ Below w.heap.size w w' := by
  have hs' := hs
  unfold maxLen at hs'
  cases hr : lexAll s with
  | ok ts =>
    have HR := Lib.hid hr
    clear hr
    go_enter Tryd.func7, Tryd.ntmps7
    go_wp2_with fail
    refine (tokens_any s w hs ht).mono ?_
    rw [HR.out]
    rintro e w1 ⟨v, rfl, _, hb1⟩
    have ht1 := ht.below hb1 ht.size
    have HB1 := Lib.hid hb1
    clear hb1
    go_wp2_with fail
    refine (wakes_any w1 ht1).mono ?_
    rintro e w2 ⟨rfl, hb2⟩
    have ht2 := ht1.below hb2 ht1.size
    have HB2 := Lib.hid (HB1.out.trans (hb2.mono HB1.out.size))
    clear hb2
    go_wp2_with fail
    refine (wakes_any w2 ht2).mono ?_
    rintro e w3 ⟨rfl, hb3⟩
    have HB3 := Lib.hid (HB2.out.trans (hb3.mono HB2.out.size))
    clear hb3
    go_wp2
    go_ret
    exact ⟨rfl, HB3.out⟩
  | error x =>
    obtain ⟨k, c⟩ := x
    by_cases hbig : 16384 < s.size
    · have hk : k = 0 ∧ c = 10 := by unfold lexAll at hr; rw [if_pos hbig] at hr; cases hr; exact ⟨rfl, rfl⟩
      obtain ⟨rfl, rfl⟩ := hk
      have HR := Lib.hid hr
      clear hr
      go_enter Tryd.func7, Tryd.ntmps7
      go_wp2_with fail
      refine (tokens_any s w hs ht).mono ?_
      rw [HR.out]
      rintro e w1 ⟨rfl, hb1⟩
      have ht1 := ht.below hb1 ht.size
      have HB1 := Lib.hid hb1
      clear hb1
      go_wp2_with fail
      refine (wakes_any w1 ht1).mono ?_
      rintro e w2 ⟨rfl, hb2⟩
      have ht2 := ht1.below hb2 ht1.size
      have HB2 := Lib.hid (HB1.out.trans (hb2.mono HB1.out.size))
      clear hb2
      go_wp2_with fail
      refine (wakes_any w2 ht2).mono ?_
      rintro e w3 ⟨rfl, hb3⟩
      have HB3 := Lib.hid (HB2.out.trans (hb3.mono HB2.out.size))
      clear hb3
      go_wp2
      go_ret
      exact ⟨rfl, HB3.out⟩
    · have hr0 : lexFrom s 0 = .error (k, c) := by unfold lexAll at hr; rw [if_neg hbig] at hr; exact hr
      obtain ⟨_, hk, _, _, hta⟩ := lex_fault 0 hr0
      obtain ⟨h11, h13⟩ := tokAt_err hta
      obtain ⟨ts, hts⟩ := lex_ahead 0 hr0
      have hbe := lex_behind hr0
      have hp : (s.extract 0 k).size = k := by rw [extract_size' s 0 k (by omega)]; omega
      have hq : (s.extract k s.size).size = s.size - k := extract_size' _ _ _ (Nat.le_refl _)
      have HP := Lib.hid (show lexAll (s.extract 0 k) = .ok ts by unfold lexAll; rw [if_neg (by omega)]; exact hts)
      have HQ := Lib.hid (show lexAll (s.extract k s.size) = .error (0, c) by unfold lexAll; rw [if_neg (by omega)]; exact hbe)
      have hpl : (s.extract 0 k).size ≤ maxLen := Nat.le_trans (extract_le s 0 k) hs
      have hql : (s.extract k s.size).size ≤ maxLen := Nat.le_trans (extract_le s k s.size) hs
      have HR := Lib.hid hr
      have c1 : (c == 0) = false := beq_eq_false_iff_ne.2 (by omega)
      have c2 : (c == 10) = false := beq_eq_false_iff_ne.2 (by omega)
      have c3 : (c == c) = true := by simp
      clear hr hr0 hta hts hbe hp hq
      go_enter Tryd.func7, Tryd.ntmps7
      go_wp2_with fail
      refine (tokens_any s w hs ht).mono ?_
      rw [HR.out]
      rintro e w1 ⟨rfl, hb1⟩
      have ht1 := ht.below hb1 ht.size
      have HB1 := Lib.hid hb1
      clear hb1
      go_wp2_with fail
      refine (wakes_any w1 ht1).mono ?_
      rintro e w2 ⟨rfl, hb2⟩
      have ht2 := ht1.below hb2 ht1.size
      have HB2 := Lib.hid (HB1.out.trans (hb2.mono HB1.out.size))
      clear hb2
      go_wp2_with fail
      refine (tokens_any (s.extract 0 k) w2 hpl ht2).mono ?_
      rw [HP.out]
      rintro e w3 ⟨v, rfl, _, hb3⟩
      have ht3 := ht2.below hb3 ht2.size
      have HB3 := Lib.hid (HB2.out.trans (hb3.mono HB2.out.size))
      clear hb3
      go_wp2_with fail
      refine (tokens_any (s.extract k s.size) w3 hql ht3).mono ?_
      rw [HQ.out]
      rintro e w4 ⟨rfl, hb4⟩
      have HB4 := Lib.hid (HB3.out.trans (hb4.mono HB3.out.size))
      clear hb4
      go_wp2
      go_ret
      exact ⟨rfl, HB4.out⟩

theorem lexFirst_reads (os : Os) {H : Type} (enc : TypeId × Value → H) : ∃ places, DataW.whole enc Tryd.prog ((laidWorld os).forCall (fun _ _ => 0) ⟨#[], #[.string ⟨#[]⟩], []⟩).memory Tryd.f7.params.toList Rows.lexFirstSpec.vars false #[Value.string ⟨#[]⟩].toList 8 = some ([.lit (.string [])], [], places) :=
  ⟨[], by kernel_rfl⟩

set_option maxRecDepth 100000 in
theorem lexFirst_lifted (os : Os) (started : os.Started) (H : Type) (enc : TypeId × Value → H) (F : Stop.Interp) :
    ReturnsInHanded {} Tryd.checked os 7 .any ((OpenSpec.ofChange Rows.lexFirstSpec).preRow enc Tryd.prog Tryd.f7 Rows.lexFirstRow.domain false Rows.lexFirstRow.laid) (((OpenSpec.ofChange Rows.lexFirstSpec).at F).post enc Tryd.prog Tryd.f7 false true false false) := by
  obtain ⟨places, hx⟩ := lexFirst_reads os enc
  refine returnsInHanded_of_row (C := Tryd.checked) (s := OpenSpec.ofChange Rows.lexFirstSpec) own started (by kernel_rfl) Tryd.func7
    (witness_row_at (enc := enc) (C := Tryd.checked) false (laidWorld os) #[.string ⟨#[]⟩] rfl (by kernel_rfl) (by kernel_rfl) (by kernel_rfl)
      (OpenSpec.preRow_of_cond 8 hx (by kernel_rfl) (fun k hk => by cases hk) (by kernel_rfl) (laid_met_text os))) ?_
  intro W base args ds gs before hval hW _ _ _ hL _ _
  exact text_contract Tryd.params7 (by kernel_rfl) rfl (fun _ => rfl) lexFirst_walk W base args ds gs before hval hW hL

theorem lexFirst_said : Rows.LexFirstSaid :=
  OpenClaim.holds_of_cond 7 Tryd.f7 rfl rfl rfl rfl rfl rfl rfl ⟨rfl, rfl, rfl, rfl, rfl⟩ rfl rfl rfl rfl rfl (by kernel_rfl) Tryd.func7 (by kernel_rfl)
    (of_decide_eq_true (by kernel_rfl)) (by unfold Func.isWrapper; first | (rw [if_pos (by decide +kernel)]; kernel_rfl) | (rw [if_neg (by decide +kernel)]; exact ⟨rfl, rfl⟩))
    (fun os started H enc _ F => by rw [OpenClaim.pre_eq_preRow]; exact lexFirst_lifted os started H enc F)

theorem lexFirst_plain (f : FuncId) (fn : Func) (hf : Tryd.pinned.checked.prog.funcNamed "lychgate/lychgatelaw01.LexFirst" = some f) (hfn : Tryd.pinned.checked.prog.funcs[f]? = some fn) :
    false = Tryd.pinned.checked.prog.looks [] ∧ ∀ (j : Nat) t, fn.params[j]? = some t → Tryd.pinned.checked.prog.wantsStandIn t = false := by
  obtain rfl : f = 7 := Option.some.inj ((show Tryd.prog.funcNamed "lychgate/lychgatelaw01.LexFirst" = some 7 by kernel_rfl).symm.trans hf) |>.symm
  obtain rfl : fn = Tryd.f7 := (Option.some.inj (Tryd.func7.symm.trans hfn)).symm
  refine ⟨by kernel_rfl, fun j t ht => ?_⟩
  rw [Tryd.params7] at ht
  obtain rfl : t = 9 := by simpa using Array.mem_of_getElem? ht
  exact (show Tryd.prog.wantsStandIn 9 = false by kernel_rfl)

theorem lexFirst_card : Rows.LexFirstCardSaid :=
  Claim7.holds_tied_plain_at .later [] _ _ _ _ lexFirst_said (fun _ h => by cases h) (by kernel_rfl) (fun _ h => by cases h) lexFirst_row_tie rfl ⟨rfl, rfl⟩ (by kernel_rfl) rfl lexFirst_plain (by kernel_rfl)

end Go.Proofs.YtafhpckhjncecaaDoor
