/- Proved here: for every text that lychgatelaw01.LexTokens is called with, in every memory in which lex's tables stand as the program's text lays them, the call returns true and the text reads as before. Conditions: the package-level tables lex.keys, lex.blanks and lex.pairs hold what their initialisers lay (the card ties them to the program's text). -/
import Derived.Test.YtafhpckhjncecaaDoorEnds
import Derived.Test.YtafhpckhjncecaaDoorRefTokens
import Derived.Deep.RegionHeld3
import Derived.Deep.RegionWith
import Derived.Deep.DeepCutAuto
namespace Go.Proofs.YtafhpckhjncecaaDoor
open Go.ChangeShapes Go.WideShapes Go.ChangeAt Go.ChangeMaps Go.RowKit

theorem refRow_of_own {w : World} {base : Nat} {v : Value} {ts : List Tok} (h : w.ownsRow base 31 4 v ts.length (cellsOf ts)) (hn : 0 < ts.length) :
    ∃ g cap, v = .slice (some ⟨g, 0, none⟩) ts.length cap ∧ base ≤ g ∧ g < w.heap.size ∧ RowAt w g ts := by
  obtain ⟨g, cap, rfl, hg1, hg2⟩ := h.form hn
  refine ⟨g, cap, rfl, hg1, hg2, fun i t ht => ?_⟩
  have hi : i < ts.length := (List.getElem?_eq_some_iff.1 ht).1
  have c : ∀ q, q < 4 → w.cell? ⟨g, i * 4 + q, none⟩ = (tokCells t)[q]? := fun q hq => by
    rw [h.cellAt (i * 4 + q) (by omega), cellsOf_get ts i t q ht hq]
  exact ⟨c 0 (by omega), c 1 (by omega), c 2 (by omega), c 3 (by omega)⟩

set_option maxHeartbeats 400000 in
theorem ref_any (t : Tok) (w : World) :
    Calls Tryd.prog 13 #[.agg #[.int .i64 t.kind, .string t.text, .int .i64 t.num, .int .i64 t.place]] w fun e w' => e = .returned (.agg #[.int .i64 t.kind, .string t.text, .int .i64 t.num, .int .i64 t.place]) ∧ Below w.heap.size w w' := by
  go_enter Tryd.func13, Tryd.ntmps13
  go_wp2
  exact bodyPost_ret (v := .agg #[.int .i64 t.kind, .string t.text, .int .i64 t.num, .int .i64 t.place]) (by simp [results, Tryd.results13, go_sem]) rfl ⟨rfl, by go_grown⟩

set_option maxHeartbeats 1000000 in
theorem lexTokens_no (s : ByteArray) (w : World) (hs : s.size ≤ maxLen) (ht : Tabs w) {k : Nat} {c : Int} (hno : lexAll s = .error (k, c)) :
    Calls Tryd.prog 3 #[.string s] w fun e w' => e = .returned (.bool true) ∧ Below w.heap.size w w' := by
  have HNO := Lib.hid hno
  clear hno
  go_enter Tryd.func3, Tryd.ntmps3
  go_wp2_with fail
  refine (tokens_any s w hs ht).mono ?_
  rw [HNO.out]
  rintro e w1 ⟨rfl, hb1⟩
  have ht1 := ht.below hb1 ht.size
  have HB1 := Lib.hid hb1
  clear hb1
  go_wp2_with fail
  refine (refTokens_any s w1 hs).mono ?_
  rw [HNO.out]
  rintro e w2 ⟨rfl, hb2⟩
  have ht2 := ht1.below hb2 ht1.size
  have HB2 := Lib.hid (HB1.out.trans (hb2.mono HB1.out.size))
  clear hb2
  go_wp2_with fail
  refine (wakes_any w2 ht2).mono ?_
  rintro e w3 ⟨rfl, hb3⟩
  have HB3 := Lib.hid (HB2.out.trans (hb3.mono HB2.out.size))
  clear hb3
  go_wp2
  go_rounds 1
  go_ret
  exact ⟨rfl, HB3.out⟩

set_option maxHeartbeats 1000000 in
theorem lexTokens_yes (s : ByteArray) (ts : List Tok) (w : World) (hs : s.size ≤ maxLen) (ht : Tabs w) (h : lexAll s = .ok ts) :
    Calls Tryd.prog 3 #[.string s] w fun e w' => e = .returned (.bool true) ∧ Below w.heap.size w w' := by
  have hsz : s.size ≤ 16384 := by
    unfold lexAll at h
    split at h
    · cases h
    · omega
  have h' : lexFrom s 0 = .ok ts := by unfold lexAll at h; rw [if_neg (by omega)] at h; exact h
  have hn : 0 < ts.length := List.length_pos_iff.2 (lex_ok_ne _ _ h')
  have hl := lex_len 0 ts (by omega) h'
  have HR := Lib.hid h
  clear h h'
  go_enter Tryd.func3, Tryd.ntmps3
  go_wp2_with fail
  refine (tokens_any s w hs ht).mono ?_
  rw [HR.out]
  rintro e w1 ⟨va, rfl, hown, hb1⟩
  have ht1 := ht.below hb1 ht.size
  obtain ⟨ga, ca, rfl, hga1, hga2, hca, hra⟩ := row_of_own hown hn
  have HB1 := Lib.hid hb1
  have HRA := Lib.hid hra
  clear hb1 hown hra
  go_wp2_with fail
  refine (refTokens_any s w1 hs).mono ?_
  rw [HR.out]
  rintro e w2 ⟨vb, rfl, hown, hb2⟩
  have ht2 := ht1.below hb2 ht1.size
  obtain ⟨gb, cb, rfl, hgb1, hgb2, hrb⟩ := refRow_of_own hown hn
  have HB2 := Lib.hid (HB1.out.trans (hb2.mono HB1.out.size))
  have HRA2 := Lib.hid (HRA.out.below hb2 hga2)
  have HRB := Lib.hid hrb
  have hga3 : ga < w2.heap.size := Nat.lt_of_lt_of_le hga2 hb2.size
  clear hb2 hown hrb HRA HB1
  go_wp2_with fail
  refine (wakes_any w2 ht2).mono ?_
  rintro e w3 ⟨rfl, hb3⟩
  have HRA3 := Lib.hid (HRA2.out.below hb3 hga3)
  have HRB3 := Lib.hid (HRB.out.below hb3 hgb2)
  have HB3 := Lib.hid (HB2.out.trans (hb3.mono HB2.out.size))
  have hga4 : ga < w3.heap.size := Nat.lt_of_lt_of_le hga3 hb3.size
  have hgb4 : gb < w3.heap.size := Nat.lt_of_lt_of_le hgb2 hb3.size
  clear hb3 HRA2 HRB HB2
  go_wp2
  go_loopw [43] (fun i wr => ∃ k : Nat, k ≤ ts.length ∧ i = .int .i64 k ∧ Below w3.heap.size w3 wr) (fun i _ => ts.length - (intOf i).toNat)
  case atStart => exact ⟨0, by omega, rfl, Below.refl _ _⟩
  case round =>
    obtain ⟨k, hk, rfl, hbr⟩ := hrel
    by_cases hlt : k < ts.length
    · have hka : ts[k]? = some ts[k] := List.getElem?_eq_getElem hlt
      obtain ⟨a0, a1, a2, a3⟩ := HRA3.out.below hbr hga4 k _ hka
      obtain ⟨b0, b1, b2, b3⟩ := HRB3.out.below hbr hgb4 k _ hka
      generalize ts[k] = t at *
      have hz := hbr.size
      have hga5 : ga < wr.heap.size := by omega
      have hgb5 : gb < wr.heap.size := by omega
      have HBR := Lib.hid hbr
      clear hka hbr
      go_wp2
      go_region_with (go_at_call 13; refine (ref_any t _).mono ?_; rintro e w' ⟨rfl, hb⟩; have d0 : w'.cell? ⟨gb, k * 4, none⟩ = some (.int .i64 t.kind) := (hb.cell (p := ⟨gb, k * 4, none⟩) (by simpa using hgb5)).trans (by simpa using b0); have d1 : w'.cell? ⟨gb, k * 4 + 1, none⟩ = some (.string t.text) := (hb.cell (p := ⟨gb, k * 4 + 1, none⟩) (by simpa using hgb5)).trans (by simpa using b1); have d2 : w'.cell? ⟨gb, k * 4 + 2, none⟩ = some (.int .i64 t.num) := (hb.cell (p := ⟨gb, k * 4 + 2, none⟩) (by simpa using hgb5)).trans (by simpa using b2); have d3 : w'.cell? ⟨gb, k * 4 + 3, none⟩ = some (.int .i64 t.place) := (hb.cell (p := ⟨gb, k * 4 + 3, none⟩) (by simpa using hgb5)).trans (by simpa using b3); have HBB := Lib.hid hb; clear hb)
      all_goals
        go_wp2
        go_roundw
        case rel =>
          exact ⟨k + 1, by omega, by go_num, HBR.out.drew.trans (HBB.out.mono hz)⟩
        case measure => simp [intOf]; omega
    · go_wp2
      go_ret
      exact ⟨rfl, HB3.out.trans (hbr.mono HB3.out.size)⟩

theorem lexTokens_walk (s : ByteArray) (w : World) (hs : s.size ≤ maxLen) (ht : Tabs w) :
    Calls Tryd.prog 3 #[.string s] w fun e w' => e = .returned (.bool true) ∧ Below w.heap.size w w' := by
  cases h : lexAll s with
  | ok ts => exact lexTokens_yes s ts w hs ht h
  | error x => obtain ⟨k, c⟩ := x; exact lexTokens_no s w hs ht h

theorem lexTokens_reads (os : Os) {H : Type} (enc : TypeId × Value → H) : ∃ places, DataW.whole enc Tryd.prog ((laidWorld os).forCall (fun _ _ => 0) ⟨#[], #[.string ⟨#[]⟩], []⟩).memory Tryd.f3.params.toList Rows.lexTokensSpec.vars false #[Value.string ⟨#[]⟩].toList 8 = some ([.lit (.string [])], [], places) :=
  ⟨[], by kernel_rfl⟩

set_option maxRecDepth 100000 in
theorem lexTokens_lifted (os : Os) (started : os.Started) (H : Type) (enc : TypeId × Value → H) (F : Stop.Interp) :
    ReturnsInHanded {} Tryd.checked os 3 .any ((OpenSpec.ofChange Rows.lexTokensSpec).preRow enc Tryd.prog Tryd.f3 Rows.lexTokensRow.domain false Rows.lexTokensRow.laid) (((OpenSpec.ofChange Rows.lexTokensSpec).at F).post enc Tryd.prog Tryd.f3 false true false false) := by
  obtain ⟨places, hx⟩ := lexTokens_reads os enc
  refine returnsInHanded_of_row (C := Tryd.checked) (s := OpenSpec.ofChange Rows.lexTokensSpec) own started (by kernel_rfl) Tryd.func3
    (witness_row_at (enc := enc) (C := Tryd.checked) false (laidWorld os) #[.string ⟨#[]⟩] rfl (by kernel_rfl) (by kernel_rfl) (by kernel_rfl)
      (OpenSpec.preRow_of_cond 8 hx (by kernel_rfl) (fun k hk => by cases hk) (by kernel_rfl) (laid_met_text os))) ?_
  intro W base args ds gs before hval hW _ _ _ hL _ _
  exact text_contract Tryd.params3 (by kernel_rfl) rfl (fun _ => rfl) lexTokens_walk W base args ds gs before hval hW hL

theorem lexTokens_said : Rows.LexTokensSaid :=
  OpenClaim.holds_of_cond 3 Tryd.f3 rfl rfl rfl rfl rfl rfl rfl ⟨rfl, rfl, rfl, rfl, rfl⟩ rfl rfl rfl rfl rfl (by kernel_rfl) Tryd.func3 (by kernel_rfl)
    (of_decide_eq_true (by kernel_rfl)) (by unfold Func.isWrapper; first | (rw [if_pos (by decide +kernel)]; kernel_rfl) | (rw [if_neg (by decide +kernel)]; exact ⟨rfl, rfl⟩))
    (fun os started H enc _ F => by rw [OpenClaim.pre_eq_preRow]; exact lexTokens_lifted os started H enc F)

theorem lexTokens_plain (f : FuncId) (fn : Func) (hf : Tryd.pinned.checked.prog.funcNamed "lychgate/lychgatelaw01.LexTokens" = some f) (hfn : Tryd.pinned.checked.prog.funcs[f]? = some fn) :
    false = Tryd.pinned.checked.prog.looks [] ∧ ∀ (j : Nat) t, fn.params[j]? = some t → Tryd.pinned.checked.prog.wantsStandIn t = false := by
  obtain rfl : f = 3 := Option.some.inj ((show Tryd.prog.funcNamed "lychgate/lychgatelaw01.LexTokens" = some 3 by kernel_rfl).symm.trans hf) |>.symm
  obtain rfl : fn = Tryd.f3 := (Option.some.inj (Tryd.func3.symm.trans hfn)).symm
  refine ⟨by kernel_rfl, fun j t ht => ?_⟩
  rw [Tryd.params3] at ht
  obtain rfl : t = 9 := by simpa using Array.mem_of_getElem? ht
  exact (show Tryd.prog.wantsStandIn 9 = false by kernel_rfl)

theorem lexTokens_card : Rows.LexTokensCardSaid :=
  Claim7.holds_tied_plain_at .later [] _ _ _ _ lexTokens_said (fun _ h => by cases h) (by kernel_rfl) (fun _ h => by cases h) lexTokens_row_tie rfl ⟨rfl, rfl⟩ (by kernel_rfl) rfl lexTokens_plain (by kernel_rfl)

end Go.Proofs.YtafhpckhjncecaaDoor
