/- Proved here: for every two texts that lychgatelaw02.SyntaxFirst is called with, in every memory in which lex's tables stand as the program's text lays them, the call returns true and the texts read as before. Conditions: the package-level tables lex.keys, lex.blanks and lex.pairs hold what their initialisers lay (the card ties them to the program's text). -/
import Derived.Test.YtflhniiemmahmaaDoorWakes2
import Derived.Test.YtflhniiemmahmaaDoorEnds
import Derived.Test.YtflhniiemmahmaaDoorFault
import Derived.Test.YtflhniiemmahmaaDoorTabs2
namespace Go.Proofs.YtflhniiemmahmaaDoor
open Go.ChangeShapes Go.WideShapes Go.ChangeAt Go.RowKit

set_option maxHeartbeats 2000000 in
set_option maxRecDepth 100000 in
theorem syntaxFirst_walk (a b : ByteArray) (w : World) (hsa : a.size ≤ maxLen) (_ : b.size ≤ maxLen) (hla : a.size ≤ 140737488351232) (hlb : b.size ≤ 140737488351232) (ht : Tabs w) :
    Calls Tryd.prog 7 #[.string a, .string b] w fun e w' => e = .returned (.bool true) ∧ Below w.heap.size w w' := by
  have HT := Lib.hid ht
  cases hq : parseB a with
  | mk t q =>
  obtain ⟨p, c⟩ := q
  have HQ := Lib.hid hq
  clear hq ht
  go_enter Tryd.func7, Tryd.ntmps7
  go_wp2_with fail
  refine (parse_any a w hsa HT.out).mono ?_
  rw [HQ.out]
  rintro e w1 ⟨kv, rfl, hk, hb⟩
  have HO := Lib.hid (show KAt 25 w1 t.kids (fun b => w.heap.size ≤ b) kv from hk).one
  have HB := Lib.hid hb
  have HT1 := Lib.hid (HT.out.below hb HT.out.size)
  clear hk hb
  unfold NodeV
  go_wp2_with ((with_reducible refine at_st 25 (.tmp 5) ?_); refine wpList_store_new rfl 25 (.tmp 5) (.tmp 18) rfl (nodeCells t kv) (old := zeroNodeCells) rfl rfl Tryd.sizeNode rfl (nodeCells_one _ _ HO.out) ?_)
  refine (wakes_any _ HT1.out.alloc).mono ?_
  rintro e w2 ⟨rfl, hb2⟩
  have HB2 := Lib.hid ((HB.out.alloc HB.out.size _).trans (hb2.mono (by simp; have := HB.out.size; omega)))
  have HT2 := Lib.hid (HT.out.below HB2.out HT.out.size)
  clear hb2
  have hcase : ((c != 20) = true ∧ (c != 21) = true) ∨ (((c != 20) = false ∨ ((c != 20) = true ∧ (c != 21) = false)) ∧ (a.size : Int) < (p : Int)) ∨ (((c != 20) = false ∨ ((c != 20) = true ∧ (c != 21) = false)) ∧ (p : Int) ≤ (a.size : Int)) := by
    by_cases h1 : c = 20
    · right
      rcases Nat.lt_or_ge a.size p with h | h
      · exact .inl ⟨.inl (by simp [h1]), by omega⟩
      · exact .inr ⟨.inl (by simp [h1]), by omega⟩
    · by_cases h2 : c = 21
      · right
        rcases Nat.lt_or_ge a.size p with h | h
        · exact .inl ⟨.inr ⟨by simp [h1], by simp [h2]⟩, by omega⟩
        · exact .inr ⟨.inr ⟨by simp [h1], by simp [h2]⟩, by omega⟩
      · exact .inl ⟨by simp [h1], by simp [h2]⟩
  rcases hcase with ⟨h1, h2⟩ | ⟨h1, h2⟩ | ⟨h1, h2⟩
  · go_wp2_with fail
    refine (wakes_any _ HT2.out).mono ?_
    rintro e w3 ⟨rfl, hb3⟩
    have HB3 := Lib.hid (HB2.out.trans (hb3.mono HB2.out.size))
    clear hb3
    go_wp2
    go_ret
    exact ⟨rfl, HB3.out⟩
  · rcases h1 with h1 | ⟨h1, h3⟩
    all_goals
      go_wp2_with fail
      refine (wakes_any _ HT2.out).mono ?_
      rintro e w3 ⟨rfl, hb3⟩
      have HB3 := Lib.hid (HB2.out.trans (hb3.mono HB2.out.size))
      clear hb3
      go_wp2
      go_ret
      exact ⟨rfl, HB3.out⟩
  · have HC := Lib.hid (show c = 20 ∨ c = 21 by
      rcases h1 with h | ⟨_, h⟩
      · exact .inl (by simpa using h)
      · exact .inr (by simpa using h))
    have hpz : p ≤ a.size := by omega
    have hnl : ¬ (a.size : Int) < (p : Int) := by omega
    have hz := headB_size a p b hpz
    have HX := Lib.hid (show (a.extract 0 p ++ ⟨#[32]⟩ ++ b).size ≤ maxLen by unfold maxLen; have : (headB a p b).size = (a.extract 0 p ++ ⟨#[32]⟩ ++ b).size := rfl; omega)
    have HG := Lib.hid (show headB a p b = a.extract 0 p ++ ⟨#[32]⟩ ++ b from rfl)
    cases hl : lexAll (headB a p b) with
    | error q =>
      have HL := Lib.hid (show ¬ ∃ ts, lexAll (a.extract 0 p ++ ⟨#[32]⟩ ++ b) = .ok ts by rintro ⟨ts, h⟩; rw [← HG.out, hl] at h; cases h)
      clear hl hz
      rcases h1 with h1 | ⟨h1, h3⟩
      all_goals
        go_wp2_with fail
        refine (tokens_end _ w2 HX.out HT2.out).mono ?_
        rintro e w3 ⟨va, pa, ca, rfl, ha, hb3⟩
        have hca : (ca != 0) = true := by rw [bne_iff_ne]; exact fun h => HL.out (ha.1 h)
        have HB3 := Lib.hid (HB2.out.trans (hb3.mono HB2.out.size))
        clear hb3 ha
        go_wp2
        go_ret
        exact ⟨rfl, HB3.out⟩
    | ok ts2 =>
      cases hq2 : parseB (headB a p b) with
      | mk t2 q2 =>
      obtain ⟨p2, c2⟩ := q2
      have HP := Lib.hid (parse_first HQ.out HC.out hpz hl hq2)
      have HL := Lib.hid (show ∃ ts, lexAll (a.extract 0 p ++ ⟨#[32]⟩ ++ b) = .ok ts from ⟨ts2, by rw [← HG.out]; exact hl⟩)
      have HQ2 := Lib.hid (show parseB (a.extract 0 p ++ ⟨#[32]⟩ ++ b) = (t2, p2, c2) by rw [← HG.out]; exact hq2)
      clear hl hz hq2
      rcases h1 with h1 | ⟨h1, h3⟩
      all_goals
        go_wp2_with fail
        refine (tokens_end _ w2 HX.out HT2.out).mono ?_
        rintro e w3 ⟨va, pa, ca, rfl, ha, hb3⟩
        have hca : (ca != 0) = false := by rw [ha.2 HL.out]; rfl
        have HB3 := Lib.hid (HB2.out.trans (hb3.mono HB2.out.size))
        have HT3 := Lib.hid (HT2.out.below hb3 HT2.out.size)
        clear hb3 ha
        go_wp2_with fail
        refine (parse_any _ w3 HX.out HT3.out).mono ?_
        rw [HQ2.out]
        rintro e w4 ⟨k4, rfl, hk4, hb4⟩
        have HO4 := Lib.hid (show KAt 25 w4 t2.kids (fun b => w3.heap.size ≤ b) k4 from hk4).one
        have HB4 := Lib.hid ((HB3.out.trans (hb4.mono HB3.out.size)).alloc (Nat.le_trans HB3.out.size hb4.size) (.cells (nodeCells t2 k4).toArray 25))
        clear hk4 hb4
        unfold NodeV
        have hway : (c2 == 0) = true ∨ ((c2 == 0) = false ∧ (c2 == 22) = true) ∨ ((c2 == 0) = false ∧ (c2 == 22) = false ∧ (p : Int) ≤ (p2 : Int)) := by
          rcases HP.out with h | h | h
          · exact .inl (by simp [h])
          · exact .inr (.inl ⟨by simp [h], by simp [h]⟩)
          · by_cases h0 : c2 = 0
            · exact .inl (by simp [h0])
            · by_cases h22 : c2 = 22
              · exact .inr (.inl ⟨by simp [h22], by simp [h22]⟩)
              · exact .inr (.inr ⟨by simp [h0], by simp [h22], by omega⟩)
        rcases hway with hw1 | ⟨hw1, hw2⟩ | ⟨hw1, hw2, hw3⟩
        all_goals
          go_wp2_with ((with_reducible refine at_st 25 (.tmp 12) ?_); refine wpList_store_new rfl 25 (.tmp 12) (.tmp 55) rfl (nodeCells t2 k4) (old := zeroNodeCells) rfl rfl Tryd.sizeNode rfl (nodeCells_one _ _ HO4.out) ?_)
          go_ret
          refine ⟨?_, HB4.out⟩
          first | rfl | exact ret_bool (decide_eq_true (by omega))

theorem syntaxFirst_reads (os : Os) {H : Type} (enc : TypeId × Value → H) : ∃ places, DataW.whole enc Tryd.prog ((laidWorld os).forCall (fun _ _ => 0) ⟨#[], #[.string ⟨#[]⟩, .string ⟨#[]⟩], []⟩).memory Tryd.f7.params.toList Rows.syntaxFirstSpec.vars false #[Value.string ⟨#[]⟩, Value.string ⟨#[]⟩].toList 8 = some ([.lit (.string []), .lit (.string [])], [], places) :=
  ⟨[], by kernel_rfl⟩

set_option maxRecDepth 100000 in
theorem syntaxFirst_lifted (os : Os) (started : os.Started) (H : Type) (enc : TypeId × Value → H) (F : Stop.Interp) :
    ReturnsInHanded {} Tryd.checked os 7 .any ((OpenSpec.ofChange Rows.syntaxFirstSpec).preRow enc Tryd.prog Tryd.f7 Rows.syntaxFirstRow.domain false Rows.syntaxFirstRow.laid) (((OpenSpec.ofChange Rows.syntaxFirstSpec).at F).post enc Tryd.prog Tryd.f7 false true false false) := by
  obtain ⟨places, hx⟩ := syntaxFirst_reads os enc
  refine returnsInHanded_of_row (C := Tryd.checked) (s := OpenSpec.ofChange Rows.syntaxFirstSpec) own started (by kernel_rfl) Tryd.func7
    (witness_row_at (enc := enc) (C := Tryd.checked) false (laidWorld os) #[.string ⟨#[]⟩, .string ⟨#[]⟩] rfl (by kernel_rfl) (by kernel_rfl) (by kernel_rfl)
      (OpenSpec.preRow_of_cond 8 hx (by kernel_rfl) (fun k hk => by cases hk) (by kernel_rfl) (laid_met_texts os))) ?_
  intro W base args ds gs before hval hW _ _ hreach hL _ _
  exact texts_contract Tryd.params7 (by kernel_rfl) rfl (fun _ _ => rfl) syntaxFirst_walk W base args ds gs before hval hW hreach hL

theorem syntaxFirst_said : Rows.SyntaxFirstSaid :=
  OpenClaim.holds_of_cond 7 Tryd.f7 rfl rfl rfl rfl rfl rfl rfl ⟨rfl, rfl, rfl, rfl, rfl⟩ rfl rfl rfl rfl rfl (by kernel_rfl) Tryd.func7 (by kernel_rfl)
    (of_decide_eq_true (by kernel_rfl)) (by unfold Func.isWrapper; first | (rw [if_pos (by decide +kernel)]; kernel_rfl) | (rw [if_neg (by decide +kernel)]; exact ⟨rfl, rfl⟩))
    (fun os started H enc _ F => by rw [OpenClaim.pre_eq_preRow]; exact syntaxFirst_lifted os started H enc F)

theorem syntaxFirst_plain (f : FuncId) (fn : Func) (hf : Tryd.pinned.checked.prog.funcNamed "lychgate/lychgatelaw02.SyntaxFirst" = some f) (hfn : Tryd.pinned.checked.prog.funcs[f]? = some fn) :
    true = Tryd.pinned.checked.prog.looks [] ∧ ∀ (j : Nat) t, fn.params[j]? = some t → Tryd.pinned.checked.prog.wantsStandIn t = false := by
  obtain rfl : f = 7 := Option.some.inj ((show Tryd.prog.funcNamed "lychgate/lychgatelaw02.SyntaxFirst" = some 7 by kernel_rfl).symm.trans hf) |>.symm
  obtain rfl : fn = Tryd.f7 := (Option.some.inj (Tryd.func7.symm.trans hfn)).symm
  refine ⟨by kernel_rfl, fun j t ht => ?_⟩
  rw [Tryd.params7] at ht
  obtain rfl : t = 9 := by simpa using Array.mem_of_getElem? ht
  exact (show Tryd.prog.wantsStandIn 9 = false by kernel_rfl)

theorem syntaxFirst_card : Rows.SyntaxFirstCardSaid :=
  Claim7.holds_tied_plain_at .later [] _ _ _ _ syntaxFirst_said (fun _ h => by cases h) (by kernel_rfl) (fun _ h => by cases h) syntaxFirst_row_tie rfl ⟨rfl, rfl⟩ (by kernel_rfl) rfl syntaxFirst_plain (by kernel_rfl)

end Go.Proofs.YtflhniiemmahmaaDoor
