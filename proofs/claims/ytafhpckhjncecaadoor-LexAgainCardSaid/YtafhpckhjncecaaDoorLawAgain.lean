/- Proved here: for every text that lychgatelaw01.LexAgain is called with, in every memory in which lex's tables stand as the program's text lays them, the call returns true and the text reads as before. Conditions: the package-level tables lex.keys, lex.blanks and lex.pairs hold what their initialisers lay (the card ties them to the program's text). -/
import Derived.Test.YtafhpckhjncecaaDoorEnds
import Derived.Test.YtafhpckhjncecaaDoorAgain
namespace Go.Proofs.YtafhpckhjncecaaDoor
open Go.ChangeShapes Go.WideShapes Go.ChangeAt Go.ChangeMaps Go.RowKit

set_option maxHeartbeats 1000000 in
set_option maxRecDepth 100000 in
theorem lexAgain_no (s : ByteArray) (w : World) (hs : s.size ≤ maxLen) (ht : Tabs w) (hno : ¬ ∃ ts, lexAll s = .ok ts) :
    Calls Tryd.prog 6 #[.string s] w fun e w' => e = .returned (.bool true) ∧ Below w.heap.size w w' := by
  have HNO := Lib.hid hno
  clear hno
  go_enter Tryd.func6, Tryd.ntmps6
  go_wp2_with fail
  refine (tokens_end s w hs ht).mono ?_
  rintro e w1 ⟨va, pa, ca, rfl, ha, hb1⟩
  have ht1 := ht.below hb1 ht.size
  have hca : (ca != 0) = true := by rw [bne_iff_ne]; exact fun h => HNO.out (ha.1 h)
  have HB1 := Lib.hid hb1
  clear hb1 ha
  go_wp2_with fail
  refine (wakes_any w1 ht1).mono ?_
  rintro e w2 ⟨rfl, hb2⟩
  have ht2 := ht1.below hb2 ht1.size
  have HB2 := Lib.hid (HB1.out.trans (hb2.mono HB1.out.size))
  clear hb2
  go_wp2_with fail
  refine (wakes_any w2 ht2).mono ?_
  rintro e w3 ⟨rfl, hb3⟩
  have HB3 := Lib.hid (HB2.out.trans (hb3.mono HB2.out.size))
  clear hb3
  go_wp2
  go_ret
  exact ⟨rfl, HB3.out⟩

set_option maxHeartbeats 1000000 in
set_option maxRecDepth 100000 in
theorem lexAgain_yes (s : ByteArray) (ts : List Tok) (w : World) (hs : s.size ≤ maxLen) (ht : Tabs w) (h : lexAll s = .ok ts) :
    Calls Tryd.prog 6 #[.string s] w fun e w' => e = .returned (.bool true) ∧ Below w.heap.size w w' := by
  have hsz : s.size ≤ 16384 := by
    unfold lexAll at h
    split at h
    · cases h
    · omega
  have h' : lexFrom s 0 = .ok ts := by unfold lexAll at h; rw [if_neg (by omega)] at h; exact h
  have hn : 0 < ts.length := List.length_pos_iff.2 (lex_ok_ne _ _ h')
  have hl := lex_len 0 ts (by omega) h'
  have HP := Lib.hid (lex_place 0 ts (by omega) h')
  have HAG := Lib.hid (lex_again 0 ts h')
  have HR := Lib.hid h
  clear h h'
  go_enter Tryd.func6, Tryd.ntmps6
  go_wp2_with fail
  refine (tokens_any s w hs ht).mono ?_
  rw [HR.out]
  rintro e w1 ⟨va, rfl, hown, hb1⟩
  have ht1 := ht.below hb1 ht.size
  obtain ⟨ga, ca, rfl, hga1, hga2, hca, hra⟩ := row_of_own hown hn
  have HB1 := Lib.hid hb1
  have HRA := Lib.hid hra
  clear hb1 hown hra
  go_wp2_with fail
  refine (wakes_any w1 ht1).mono ?_
  rintro e w2 ⟨rfl, hb2⟩
  have ht2 := ht1.below hb2 ht1.size
  have HB2 := Lib.hid (HB1.out.trans (hb2.mono HB1.out.size))
  have HRA2 := Lib.hid (HRA.out.below hb2 hga2)
  have hga3 : ga < w2.heap.size := Nat.lt_of_lt_of_le hga2 hb2.size
  clear hb2 HRA HB1
  go_wp2
  go_loopw [6, 27] (fun sv i wr => ∃ (k : Nat) (S : ByteArray), k ≤ ts.length ∧ i = .int .i64 k ∧ sv = .string S ∧ S.data.toList = joinT (ts.take k) ∧ S.size ≤ k * 16385 ∧ Below w2.heap.size w2 wr) (fun _ i _ => ts.length - (intOf i).toNat)
  case atStart => exact ⟨0, ⟨#[]⟩, by omega, rfl, rfl, rfl, Nat.le_refl 0, Below.refl _ _⟩
  case round =>
    obtain ⟨k, S, hk, rfl, rfl, hS, hSl, hbr⟩ := hrel
    by_cases hlt : k < ts.length
    · have hka : ts[k]? = some ts[k] := List.getElem?_eq_getElem hlt
      have hpl := HP.out ts[k] (List.getElem_mem hlt)
      have HJ := Lib.hid (joinT_take ts k hlt)
      obtain ⟨a0, a1, a2, a3⟩ := HRA2.out.below hbr hga3 k _ hka
      generalize ts[k] = t at *
      have hz := hbr.size
      have hga4 : ga < wr.heap.size := by omega
      have HS := Lib.hid hS
      have HBR := Lib.hid hbr
      have htl : t.text.size ≤ 16384 := by omega
      have hmul : k * 16385 ≤ 16385 * 16385 := Nat.mul_le_mul_right _ (by omega)
      have hSb : S.size ≤ 268468225 := by omega
      clear hka hbr hS
      go_wp2
      go_roundw
      case rel => exact ⟨k + 1, S ++ (t.text ++ ⟨#[32]⟩), by omega, by go_num, rfl, by rw [cat_list, cat_list, HS.out, HJ.out], by rw [ByteArray.size_append, ByteArray.size_append, show (⟨#[32]⟩ : ByteArray).size = 1 from rfl]; omega, HBR.out.alloc hz _⟩
      case measure => simp [intOf]; omega
    · obtain rfl : k = ts.length := by omega
      rw [List.take_length] at hS
      have HS := Lib.hid hS
      have HBR := Lib.hid hbr
      have HBW := Lib.hid (HB2.out.trans (hbr.mono HB2.out.size))
      have htr := ht2.below hbr ht2.size
      have HRA3 := Lib.hid (HRA2.out.below hbr hga3)
      have hga4 : ga < wr.heap.size := Nat.lt_of_lt_of_le hga3 hbr.size
      clear hbr hS
      by_cases hbig : 16384 < S.size
      · have hbig' : 16384 < (S.size : Int) := by omega
        go_wp2
        go_ret
        exact ⟨rfl, HBW.out⟩
      · have hbig' : ¬ 16384 < (S.size : Int) := by omega
        obtain ⟨ts', h7, h8⟩ := HAG.out S 0 HS.out
        have hlen : ts'.length = ts.length := by have := congrArg List.length h8; simpa using this
        have HLS := Lib.hid (show lexAll S = .ok ts' by unfold lexAll; rw [if_neg hbig]; exact h7)
        have HST := Lib.hid h8
        have HLEN := Lib.hid hlen
        have hsS : S.size ≤ maxLen := by unfold maxLen; omega
        have hn' : 0 < ts'.length := by omega
        clear h7 h8 hlen
        go_wp2_with fail
        refine (tokens_any S wr hsS htr).mono ?_
        rw [HLS.out]
        rintro e w4 ⟨vb, rfl, hown, hb4⟩
        obtain ⟨gb, cb, rfl, hgb1, hgb2, hcb, hrb⟩ := row_of_own hown hn'
        have HB4 := Lib.hid (HBW.out.trans (hb4.mono HBW.out.size))
        have HRA4 := Lib.hid (HRA3.out.below hb4 hga4)
        have HRB := Lib.hid hrb
        have hga5 : ga < w4.heap.size := Nat.lt_of_lt_of_le hga4 hb4.size
        have hl1 : ((ts'.length : Int) != (ts.length : Int)) = false := by rw [HLEN.out]; simp
        clear hb4 hown hrb
        go_wp2
        go_loopw [57] (fun i wr' => ∃ k : Nat, k ≤ ts.length ∧ i = .int .i64 k ∧ ∃ n, wr' = w4.drewN n) (fun i _ => ts.length - (intOf i).toNat)
        case atStart => exact ⟨0, by omega, rfl, 0, rfl⟩
        case round =>
          obtain ⟨k, hk2, rfl, nd, rfl⟩ := hrel
          by_cases hlt : k < ts.length
          · have hka : ts[k]? = some ts[k] := List.getElem?_eq_getElem hlt
            have hlt2 : k < ts'.length := by have := HLEN.out; omega
            have hkb : ts'[k]? = some ts'[k] := List.getElem?_eq_getElem hlt2
            have hst : strip ts'[k] = strip ts[k] := by
              have := congrArg (fun l => l[k]?) HST.out
              simp only [List.getElem?_map, hka, hkb, Option.map_some, Option.some.injEq] at this
              exact this
            obtain ⟨a0, a1, a2, a3⟩ := HRA4.out k _ hka
            obtain ⟨b0, b1, b2, b3⟩ := HRB.out k _ hkb
            generalize ts[k] = t at *
            generalize ts'[k] = u at *
            obtain ⟨hs1, hs2, hs3⟩ : u.kind = t.kind ∧ u.text = t.text ∧ u.num = t.num := by
              simp only [strip, Prod.mk.injEq] at hst
              exact hst
            rw [hs1] at b0
            rw [hs2] at b1
            rw [hs3] at b2
            clear hka hkb hst hs1 hs2 hs3 a3 b3
            have e0 : ((t.kind : Int) != (t.kind : Int)) = false := by simp
            have e1 : (t.text.toList != t.text.toList) = false := by simp
            have e2 : ((t.num : Int) != (t.num : Int)) = false := by simp
            go_wp2
            go_quiet (fail)
            go_wp2
            go_roundw
            case rel => exact ⟨k + 1, by omega, by go_num, _, rfl⟩
            case measure => simp [intOf]; omega
          · go_wp2
            go_ret
            exact ⟨rfl, below_draws HB4.out _⟩

theorem lexAgain_walk (s : ByteArray) (w : World) (hs : s.size ≤ maxLen) (ht : Tabs w) :
    Calls Tryd.prog 6 #[.string s] w fun e w' => e = .returned (.bool true) ∧ Below w.heap.size w w' := by
  by_cases h : ∃ ts, lexAll s = .ok ts
  · obtain ⟨ts, h⟩ := h
    exact lexAgain_yes s ts w hs ht h
  · exact lexAgain_no s w hs ht h

theorem lexAgain_reads (os : Os) {H : Type} (enc : TypeId × Value → H) : ∃ places, DataW.whole enc Tryd.prog ((laidWorld os).forCall (fun _ _ => 0) ⟨#[], #[.string ⟨#[]⟩], []⟩).memory Tryd.f6.params.toList Rows.lexAgainSpec.vars false #[Value.string ⟨#[]⟩].toList 8 = some ([.lit (.string [])], [], places) :=
  ⟨[], by kernel_rfl⟩

set_option maxRecDepth 100000 in
theorem lexAgain_lifted (os : Os) (started : os.Started) (H : Type) (enc : TypeId × Value → H) (F : Stop.Interp) :
    ReturnsInHanded {} Tryd.checked os 6 .any ((OpenSpec.ofChange Rows.lexAgainSpec).preRow enc Tryd.prog Tryd.f6 Rows.lexAgainRow.domain false Rows.lexAgainRow.laid) (((OpenSpec.ofChange Rows.lexAgainSpec).at F).post enc Tryd.prog Tryd.f6 false true false false) := by
  obtain ⟨places, hx⟩ := lexAgain_reads os enc
  refine returnsInHanded_of_row (C := Tryd.checked) (s := OpenSpec.ofChange Rows.lexAgainSpec) own started (by kernel_rfl) Tryd.func6
    (witness_row_at (enc := enc) (C := Tryd.checked) false (laidWorld os) #[.string ⟨#[]⟩] rfl (by kernel_rfl) (by kernel_rfl) (by kernel_rfl)
      (OpenSpec.preRow_of_cond 8 hx (by kernel_rfl) (fun k hk => by cases hk) (by kernel_rfl) (laid_met_text os))) ?_
  intro W base args ds gs before hval hW _ _ _ hL _ _
  exact text_contract Tryd.params6 (by kernel_rfl) rfl (fun _ => rfl) lexAgain_walk W base args ds gs before hval hW hL

theorem lexAgain_said : Rows.LexAgainSaid :=
  OpenClaim.holds_of_cond 6 Tryd.f6 rfl rfl rfl rfl rfl rfl rfl ⟨rfl, rfl, rfl, rfl, rfl⟩ rfl rfl rfl rfl rfl (by kernel_rfl) Tryd.func6 (by kernel_rfl)
    (of_decide_eq_true (by kernel_rfl)) (by unfold Func.isWrapper; first | (rw [if_pos (by decide +kernel)]; kernel_rfl) | (rw [if_neg (by decide +kernel)]; exact ⟨rfl, rfl⟩))
    (fun os started H enc _ F => by rw [OpenClaim.pre_eq_preRow]; exact lexAgain_lifted os started H enc F)

theorem lexAgain_plain (f : FuncId) (fn : Func) (hf : Tryd.pinned.checked.prog.funcNamed "lychgate/lychgatelaw01.LexAgain" = some f) (hfn : Tryd.pinned.checked.prog.funcs[f]? = some fn) :
    false = Tryd.pinned.checked.prog.looks [] ∧ ∀ (j : Nat) t, fn.params[j]? = some t → Tryd.pinned.checked.prog.wantsStandIn t = false := by
  obtain rfl : f = 6 := Option.some.inj ((show Tryd.prog.funcNamed "lychgate/lychgatelaw01.LexAgain" = some 6 by kernel_rfl).symm.trans hf) |>.symm
  obtain rfl : fn = Tryd.f6 := (Option.some.inj (Tryd.func6.symm.trans hfn)).symm
  refine ⟨by kernel_rfl, fun j t ht => ?_⟩
  rw [Tryd.params6] at ht
  obtain rfl : t = 9 := by simpa using Array.mem_of_getElem? ht
  exact (show Tryd.prog.wantsStandIn 9 = false by kernel_rfl)

theorem lexAgain_card : Rows.LexAgainCardSaid :=
  Claim7.holds_tied_plain_at .later [] _ _ _ _ lexAgain_said (fun _ h => by cases h) (by kernel_rfl) (fun _ h => by cases h) lexAgain_row_tie rfl ⟨rfl, rfl⟩ (by kernel_rfl) rfl lexAgain_plain (by kernel_rfl)

end Go.Proofs.YtafhpckhjncecaaDoor
