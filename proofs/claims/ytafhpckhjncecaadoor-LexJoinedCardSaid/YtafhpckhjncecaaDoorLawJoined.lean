/- Proved here: for every two texts that lychgatelaw01.LexJoined is called with, in every memory in which lex's tables stand as the program's text lays them, the call returns true and the texts read as before. Conditions: the package-level tables lex.keys, lex.blanks and lex.pairs hold what their initialisers lay (the card ties them to the program's text). -/
import Derived.Test.YtafhpckhjncecaaDoorEnds
import Derived.SizedLaws
namespace Go.Proofs.YtafhpckhjncecaaDoor
open Go.ChangeShapes Go.WideShapes Go.ChangeAt Go.ChangeMaps Go.RowKit

set_option maxHeartbeats 1000000 in
set_option maxRecDepth 100000 in
theorem lexJoined_yes (a b : ByteArray) (ta tb : List Tok) (w : World) (hsa : a.size ≤ maxLen) (hsb : b.size ≤ maxLen) (ht : Tabs w) (ha : lexAll a = .ok ta) (hb : lexAll b = .ok tb) (hs : a.size + b.size + 1 ≤ 16384) :
    Calls Tryd.prog 9 #[.string a, .string b] w fun e w' => e = .returned (.bool true) ∧ Below w.heap.size w w' := by
  have hc := lex_join ha hb hs
  have hsc : (joinB a b).size ≤ maxLen := by rw [joinB_size]; unfold maxLen; omega
  have hs1 : ¬ 16384 < (a.size : Int) + (b.size : Int) + 1 := by omega
  have ha' : lexFrom a 0 = .ok ta := by unfold lexAll at ha; rw [if_neg (by omega)] at ha; exact ha
  have hb' : lexFrom b 0 = .ok tb := by unfold lexAll at hb; rw [if_neg (by omega)] at hb; exact hb
  have hna : 0 < ta.length := List.length_pos_iff.2 (lex_ok_ne _ _ ha')
  have hnb : 0 < tb.length := List.length_pos_iff.2 (lex_ok_ne _ _ hb')
  have hla := lex_len 0 ta (by omega) ha'
  have hlb := lex_len 0 tb (by omega) hb'
  have HPB := Lib.hid (lex_place 0 tb (by omega) hb')
  generalize htc : ta.dropLast ++ tb.map (shiftTok (a.size + 1)) = tc at hc
  have hnc : tc.length = ta.length + tb.length - 1 := by rw [← htc]; simp; omega
  have HA := Lib.hid ha
  have HB := Lib.hid hb
  have HC := Lib.hid hc
  have HTC := Lib.hid htc
  have HNC := Lib.hid hnc
  clear ha hb hc htc hnc ha' hb'
  go_enter Tryd.func9, Tryd.ntmps9
  go_wp2_with fail
  refine (tokens_any a w hsa ht).mono ?_
  rw [HA.out]
  rintro e w1 ⟨va, rfl, hown, hb1⟩
  have ht1 := ht.below hb1 ht.size
  obtain ⟨ga, ca, rfl, hga1, hga2, hca, hra⟩ := row_of_own hown hna
  have HB1 := Lib.hid hb1
  have HRA := Lib.hid hra
  clear hb1 hown hra
  go_wp2_with fail
  refine (tokens_any b w1 hsb ht1).mono ?_
  rw [HB.out]
  rintro e w2 ⟨vb, rfl, hown, hb2⟩
  have ht2 := ht1.below hb2 ht1.size
  obtain ⟨gb, cb, rfl, hgb1, hgb2, hcb, hrb⟩ := row_of_own hown hnb
  have HRA2 := Lib.hid (HRA.out.below hb2 hga2)
  have hga3 : ga < w2.heap.size := Nat.lt_of_lt_of_le hga2 hb2.size
  have HB2 := Lib.hid (HB1.out.trans (hb2.mono HB1.out.size))
  have HRB := Lib.hid hrb
  clear hb2 hown hrb HRA HB1
  go_wp2_with fail
  refine (wakes_any w2 ht2).mono ?_
  rintro e w3 ⟨rfl, hb3⟩
  have ht3 := ht2.below hb3 ht2.size
  have HRA3 := Lib.hid (HRA2.out.below hb3 hga3)
  have HRB3 := Lib.hid (HRB.out.below hb3 hgb2)
  have hga4 : ga < w3.heap.size := Nat.lt_of_lt_of_le hga3 hb3.size
  have hgb4 : gb < w3.heap.size := Nat.lt_of_lt_of_le hgb2 hb3.size
  have HB3 := Lib.hid (HB2.out.trans (hb3.mono HB2.out.size))
  clear hb3 HRA2 HRB HB2
  go_wp2_with fail
  rw [show a ++ ⟨#[10]⟩ ++ b = joinB a b from rfl]
  refine (tokens_any (joinB a b) w3 hsc ht3).mono ?_
  rw [HC.out]
  rintro e w4 ⟨vc, rfl, hown, hb4⟩
  have ht4 := ht3.below hb4 ht3.size
  obtain ⟨gc, cc, rfl, hgc1, hgc2, hcc, hrc⟩ := row_of_own hown (by have := HNC.out; omega)
  have HRA4 := Lib.hid (HRA3.out.below hb4 hga4)
  have HRB4 := Lib.hid (HRB3.out.below hb4 hgb4)
  have hga5 : ga < w4.heap.size := Nat.lt_of_lt_of_le hga4 hb4.size
  have hgb5 : gb < w4.heap.size := Nat.lt_of_lt_of_le hgb4 hb4.size
  have HB4 := Lib.hid (HB3.out.trans (hb4.mono HB3.out.size))
  have HRC := Lib.hid hrc
  clear hb4 hown hrc HRA3 HRB3 HB3
  have hl1 : ((tc.length : Int) != (ta.length : Int) + (tb.length : Int) - 1) = false := by rw [HNC.out]; simp; omega
  go_wp2
  go_loopw [78] (fun i wr => ∃ k : Nat, k ≤ ta.length - 1 ∧ i = .int .i64 k ∧ Below w4.heap.size w4 wr) (fun i _ => ta.length - 1 - (intOf i).toNat)
  case atStart => exact ⟨0, by omega, rfl, Below.refl _ _⟩
  case round =>
    obtain ⟨k, hk, rfl, hbr⟩ := hrel
    by_cases hlt : k < ta.length - 1
    · have hka : ta[k]? = some ta[k] := List.getElem?_eq_getElem (by omega)
      have hkc : tc[k]? = some ta[k] := by
        rw [← HTC.out, List.getElem?_append_left (by simp; omega), List.getElem?_dropLast, if_pos (by omega)]
        exact hka
      obtain ⟨a0, a1, a2, a3⟩ := HRA4.out.below hbr hga5 k _ hka
      obtain ⟨c0, c1, c2, c3⟩ := HRC.out.below hbr hgc2 k _ hkc
      generalize ta[k] = t at *
      have hz := hbr.size
      have hga6 : ga < wr.heap.size := by omega
      have hgc6 : gc < wr.heap.size := by omega
      have HBR := Lib.hid hbr
      clear hka hkc hbr
      have hlt' : k < tc.length := by have := HNC.out; omega
      go_wp2
      go_quiet (fail)
      go_wp2
      go_roundw
      case rel => exact ⟨k + 1, by omega, by go_num, below_draws (HBR.out.alloc hz _) _⟩
      case measure => simp [intOf]; omega
    · obtain rfl : k = ta.length - 1 := by omega
      have HBR := Lib.hid hbr
      have hz := hbr.size
      clear hbr
      go_wp2
      go_loopw [92] (fun i wr' => ∃ k : Nat, k ≤ tb.length ∧ i = .int .i64 k ∧ Below w4.heap.size w4 wr') (fun i _ => tb.length - (intOf i).toNat)
      case atStart => exact ⟨0, by omega, rfl, HBR.out⟩
      case round =>
        obtain ⟨k, hk2, rfl, hbr2⟩ := hrel
        by_cases hlt2 : k < tb.length
        · have hkb : tb[k]? = some tb[k] := List.getElem?_eq_getElem hlt2
          have hkc : tc[ta.length - 1 + k]? = some (shiftTok (a.size + 1) tb[k]) := by
            rw [← HTC.out, List.getElem?_append_right (by simp), List.length_dropLast, show ta.length - 1 + k - (ta.length - 1) = k by omega, List.getElem?_map, hkb]
            rfl
          obtain ⟨b0, b1, b2, b3⟩ := HRB4.out.below hbr2 hgb5 k _ hkb
          obtain ⟨c0, c1, c2, c3⟩ := HRC.out.below hbr2 hgc2 _ _ hkc
          have hpl := (HPB.out tb[k] (List.getElem_mem hlt2)).1
          generalize tb[k] = t at *
          unfold shiftTok at c0 c1 c2 c3
          have hz2 := hbr2.size
          have hgb6 : gb < wr.heap.size := by omega
          have hgc6 : gc < wr.heap.size := by omega
          have HBR2 := Lib.hid hbr2
          clear hkb hkc hbr2
          have hlt' : ta.length - 1 + k < tc.length := by have := HNC.out; omega
          have hpl' : (t.place : Int) ≤ 16384 := by omega
          go_wp2
          have q0 : 0 ≤ (ta.length : Int) - 1 + (k : Int) := by omega
          have q5 : (ta.length : Int) - 1 + (k : Int) < (tc.length : Int) := by omega
          have q1 : IntKind.i64.wrap ((ta.length : Int) - 1) = (ta.length : Int) - 1 := IntWalk.i64_in _ (by omega)
          have q2 : IntKind.i64.wrap ((ta.length : Int) - 1 + (k : Int)) = (ta.length : Int) - 1 + (k : Int) := IntWalk.i64_in _ (by omega)
          have q4 : ((ta.length : Int) - 1 + (k : Int)).toNat = ta.length - 1 + k := by omega
          go_quiet (fail)
          clear q0 q1 q2 q4 q5
          go_wp2
          go_roundw
          case rel => exact ⟨k + 1, by omega, by go_num, below_draws (HBR2.out.alloc hz2 _) _⟩
          case measure => simp [intOf]; omega
        · go_wp2
          go_ret
          exact ⟨rfl, HB4.out.trans (hbr2.mono HB4.out.size)⟩

set_option maxHeartbeats 1000000 in
set_option maxRecDepth 100000 in
theorem lexJoined_no (a b : ByteArray) (w : World) (hsa : a.size ≤ maxLen) (hsb : b.size ≤ maxLen) (hla : a.size ≤ 140737488351232) (hlb : b.size ≤ 140737488351232) (ht : Tabs w) (hno : ¬ ((∃ ta, lexAll a = .ok ta) ∧ (∃ tb, lexAll b = .ok tb) ∧ a.size + b.size + 1 ≤ 16384)) :
    Calls Tryd.prog 9 #[.string a, .string b] w fun e w' => e = .returned (.bool true) ∧ Below w.heap.size w w' := by
  have HNO := Lib.hid hno
  clear hno
  go_enter Tryd.func9, Tryd.ntmps9
  go_wp2_with fail
  refine (tokens_end a w hsa ht).mono ?_
  rintro e w1 ⟨va, pa, ca, rfl, ha, hb1⟩
  have ht1 := ht.below hb1 ht.size
  have HA := Lib.hid ha
  have HB1 := Lib.hid hb1
  clear hb1 ha
  go_wp2_with fail
  refine (tokens_end b w1 hsb ht1).mono ?_
  rintro e w2 ⟨vb, pb, cb, rfl, hb, hb2⟩
  have ht2 := ht1.below hb2 ht1.size
  have HB := Lib.hid hb
  have HB2 := Lib.hid (HB1.out.trans (hb2.mono HB1.out.size))
  clear hb2 hb
  have hany : (ca != 0) = true ∨ ((ca != 0) = false ∧ (cb != 0) = true) ∨ ((ca != 0) = false ∧ (cb != 0) = false ∧ 16384 < (a.size : Int) + (b.size : Int) + 1) := by
    by_cases h1 : ca = 0
    · by_cases h2 : cb = 0
      · right; right
        refine ⟨by simp [h1], by simp [h2], ?_⟩
        rcases Nat.lt_or_ge 16384 (a.size + b.size + 1) with h | h
        · omega
        · exact absurd ⟨HA.out.1 h1, HB.out.1 h2, h⟩ HNO.out
      · right; left
        exact ⟨by simp [h1], by simp [h2]⟩
    · left
      simp [h1]
  rcases hany with h1 | ⟨h1, h2⟩ | ⟨h1, h2, h3⟩
  all_goals
    go_wp2_with fail
    refine (wakes_any w2 ht2).mono ?_
    rintro e w3 ⟨rfl, hb3⟩
    have ht3 := ht2.below hb3 ht2.size
    have HB3 := Lib.hid (HB2.out.trans (hb3.mono HB2.out.size))
    clear hb3
    go_wp2_with fail
    refine (wakes_any w3 ht3).mono ?_
    rintro e w4 ⟨rfl, hb4⟩
    have HB4 := Lib.hid (HB3.out.trans (hb4.mono HB3.out.size))
    clear hb4
    go_wp2
    go_ret
    exact ⟨rfl, HB4.out⟩

theorem lexJoined_walk (a b : ByteArray) (w : World) (hsa : a.size ≤ maxLen) (hsb : b.size ≤ maxLen) (hla : a.size ≤ 140737488351232) (hlb : b.size ≤ 140737488351232) (ht : Tabs w) :
    Calls Tryd.prog 9 #[.string a, .string b] w fun e w' => e = .returned (.bool true) ∧ Below w.heap.size w w' := by
  by_cases h : (∃ ta, lexAll a = .ok ta) ∧ (∃ tb, lexAll b = .ok tb) ∧ a.size + b.size + 1 ≤ 16384
  · obtain ⟨⟨ta, ha⟩, ⟨tb, hb⟩, hs⟩ := h
    exact lexJoined_yes a b ta tb w hsa hsb ht ha hb hs
  · exact lexJoined_no a b w hsa hsb hla hlb ht h

/- From the walk to what the row asks of a call with two texts. -/
theorem texts_contract {H : Type} {enc : TypeId × Value → H} {f : FuncId} {fn : Func} {sp : ChangeSpec} {ts : List TypeId} (hp : fn.params = #[9, 9]) (hr : fn.resultTypes = #[4]) (hvars : sp.vars = [])
    (hfn : ∀ d1 d2 : DataW H, sp.fn H [d1, d2] = { results := [.lit (.bool true)], args := [d1, d2] })
    (walk : ∀ (a b : ByteArray) (w : World), a.size ≤ maxLen → b.size ≤ maxLen → a.size ≤ 140737488351232 → b.size ≤ 140737488351232 → Tabs w → Calls Tryd.prog f #[.string a, .string b] w fun e w' => e = .returned (.bool true) ∧ Below w.heap.size w w')
    (W : World) (base : Nat) (args : Array Value) (ds gs : List (DataW H)) (before : List MemPlace)
    (hval : ∀ (j : Nat) t v, fn.params[j]? = some t → args[j]? = some v → Value.okWide Tryd.prog W .any base t v)
    (hW : DataW.Whole enc Tryd.prog fn.params.toList sp.vars false W args.toList ds gs before) (hreach : (DataW.weightsEach Tryd.prog (fn.params.toList ++ ts) (ds ++ gs)).all (· ≤ reachBytes) = true) (hL : laidMetH Tryd.prog laid3 W) :
    Calls Tryd.prog f args W fun e W' => ∃ v, e = .returned v ∧ sp.post enc Tryd.prog fn false true false false W args v W' := by
  have hW' := hW
  obtain ⟨p, q, hA0, hV, rfl, hfz, hnd⟩ := hW
  rw [hvars] at hV
  have hA : DataW.TrodAll enc Tryd.prog W 0 (fun _ => true) true fn.params.toList args.toList ds p := hA0
  rw [hp] at hA hval hreach
  obtain ⟨v0, vs0, d0, ds0, p0, q0, hargs, rfl, rfl, h0, r0⟩ := trodAll_cons hA
  obtain ⟨v1, vs1, d1, ds1, p1, q1, hargs1, rfl, rfl, h1, r1⟩ := trodAll_cons r0
  obtain ⟨rfl, rfl, rfl⟩ := trodAll_nil r1
  obtain rfl : args = #[v0, v1] := by cases args; simp_all
  obtain ⟨rfl, rfl⟩ := trodVars_none hV
  obtain ⟨a, rfl, rfl, rfl, hsa⟩ := open_string Tryd.underlying9 (hval 0 9 v0 rfl rfl) h0
  obtain ⟨b, rfl, rfl, rfl, hsb⟩ := open_string Tryd.underlying9 (hval 1 9 v1 rfl rfl) h1
  clear hA0
  have hla : a.size ≤ 140737488351232 := by
    have := sized_string hreach (j := 0) (t := 9) (bytes := a.data.toList) rfl rfl
    rw [Array.length_toList] at this
    exact this
  have hlb : b.size ≤ 140737488351232 := by
    have := sized_string hreach (j := 1) (t := 9) (bytes := b.data.toList) rfl rfl
    rw [Array.length_toList] at this
    exact this
  refine (walk a b W hsa hsb hla hlb (tabs_of_laid hL)).mono fun e W' ⟨he, hb⟩ => ⟨_, he, ?_⟩
  refine ⟨_, _, _, [], [], [], hW', ?_, ?_, ?_, hb.frame _, fun h => by cases h⟩
  · rw [List.append_nil, hfn, hr]
    exact trodAll_cons_mk (shut_bool Tryd.underlying4 _) trodAll_mk0
  · rw [List.append_nil, hfn, hp]
    exact trodAll_cons_mk (shut_string Tryd.underlying9 hsa) (trodAll_cons_mk (shut_string Tryd.underlying9 hsb) trodAll_mk0)
  · rw [List.append_nil, hfn, hvars]
    rfl

theorem laid_met_texts (os : Os) : laidMet Tryd.prog laid3 ((laidWorld os).forCall (fun _ _ => 0) ⟨#[], #[.string ⟨#[]⟩, .string ⟨#[]⟩], []⟩).memory :=
  laidMet_of_run' 8 (by kernel_rfl) (by kernel_rfl)

theorem lexJoined_reads (os : Os) {H : Type} (enc : TypeId × Value → H) : ∃ places, DataW.whole enc Tryd.prog ((laidWorld os).forCall (fun _ _ => 0) ⟨#[], #[.string ⟨#[]⟩, .string ⟨#[]⟩], []⟩).memory Tryd.f9.params.toList Rows.lexJoinedSpec.vars false #[Value.string ⟨#[]⟩, Value.string ⟨#[]⟩].toList 8 = some ([.lit (.string []), .lit (.string [])], [], places) :=
  ⟨[], by kernel_rfl⟩

set_option maxRecDepth 100000 in
theorem lexJoined_lifted (os : Os) (started : os.Started) (H : Type) (enc : TypeId × Value → H) (F : Stop.Interp) :
    ReturnsInHanded {} Tryd.checked os 9 .any ((OpenSpec.ofChange Rows.lexJoinedSpec).preRow enc Tryd.prog Tryd.f9 Rows.lexJoinedRow.domain false Rows.lexJoinedRow.laid) (((OpenSpec.ofChange Rows.lexJoinedSpec).at F).post enc Tryd.prog Tryd.f9 false true false false) := by
  obtain ⟨places, hx⟩ := lexJoined_reads os enc
  refine returnsInHanded_of_row (C := Tryd.checked) (s := OpenSpec.ofChange Rows.lexJoinedSpec) own started (by kernel_rfl) Tryd.func9
    (witness_row_at (enc := enc) (C := Tryd.checked) false (laidWorld os) #[.string ⟨#[]⟩, .string ⟨#[]⟩] rfl (by kernel_rfl) (by kernel_rfl) (by kernel_rfl)
      (OpenSpec.preRow_of_cond 8 hx (by kernel_rfl) (fun k hk => by cases hk) (by kernel_rfl) (laid_met_texts os))) ?_
  intro W base args ds gs before hval hW _ _ hreach hL _ _
  exact texts_contract Tryd.params9 (by kernel_rfl) rfl (fun _ _ => rfl) lexJoined_walk W base args ds gs before hval hW hreach hL

theorem lexJoined_said : Rows.LexJoinedSaid :=
  OpenClaim.holds_of_cond 9 Tryd.f9 rfl rfl rfl rfl rfl rfl rfl ⟨rfl, rfl, rfl, rfl, rfl⟩ rfl rfl rfl rfl rfl (by kernel_rfl) Tryd.func9 (by kernel_rfl)
    (of_decide_eq_true (by kernel_rfl)) (by unfold Func.isWrapper; first | (rw [if_pos (by decide +kernel)]; kernel_rfl) | (rw [if_neg (by decide +kernel)]; exact ⟨rfl, rfl⟩))
    (fun os started H enc _ F => by rw [OpenClaim.pre_eq_preRow]; exact lexJoined_lifted os started H enc F)

theorem lexJoined_plain (f : FuncId) (fn : Func) (hf : Tryd.pinned.checked.prog.funcNamed "lychgate/lychgatelaw01.LexJoined" = some f) (hfn : Tryd.pinned.checked.prog.funcs[f]? = some fn) :
    false = Tryd.pinned.checked.prog.looks [] ∧ ∀ (j : Nat) t, fn.params[j]? = some t → Tryd.pinned.checked.prog.wantsStandIn t = false := by
  obtain rfl : f = 9 := Option.some.inj ((show Tryd.prog.funcNamed "lychgate/lychgatelaw01.LexJoined" = some 9 by kernel_rfl).symm.trans hf) |>.symm
  obtain rfl : fn = Tryd.f9 := (Option.some.inj (Tryd.func9.symm.trans hfn)).symm
  refine ⟨by kernel_rfl, fun j t ht => ?_⟩
  rw [Tryd.params9] at ht
  obtain rfl : t = 9 := by simpa using Array.mem_of_getElem? ht
  exact (show Tryd.prog.wantsStandIn 9 = false by kernel_rfl)

theorem lexJoined_card : Rows.LexJoinedCardSaid :=
  Claim7.holds_tied_plain_at .later [] _ _ _ _ lexJoined_said (fun _ h => by cases h) (by kernel_rfl) (fun _ h => by cases h) lexJoined_row_tie rfl ⟨rfl, rfl⟩ (by kernel_rfl) rfl lexJoined_plain (by kernel_rfl)

end Go.Proofs.YtafhpckhjncecaaDoor
