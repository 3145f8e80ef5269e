/- Proved here: for every text that lychgatelaw02.SyntaxBlanks is called with, in every memory in which lex's tables stand as the program's text lays them, the call returns true and the text reads as before. Conditions: the package-level tables lex.keys, lex.blanks and lex.pairs hold what their initialisers lay (the card ties them to the program's text). -/
import Derived.Test.YtflhniiemmahmaaDoorWakes2
import Derived.Test.YtflhniiemmahmaaDoorToks
import Derived.Test.YtflhniiemmahmaaDoorEnds
import Derived.Test.YtflhniiemmahmaaDoorAlike
import Derived.Test.YtflhniiemmahmaaDoorFull
import Derived.Test.YtflhniiemmahmaaDoorTabs
namespace Go.Proofs.YtflhniiemmahmaaDoor
open Go.ChangeShapes Go.WideShapes Go.ChangeAt Go.RowKit

set_option maxHeartbeats 1000000 in
set_option maxRecDepth 100000 in
theorem syntaxBlanks_no (s : ByteArray) (w : World) (hs : s.size ≤ maxLen) (ht : Tabs w) (hno : ¬ ∃ ts, lexAll s = .ok ts) :
    Calls Tryd.prog 6 #[.string s] w fun e w' => e = .returned (.bool true) ∧ Below w.heap.size w w' := by
  have HNO := Lib.hid hno
  clear hno
  go_enter Tryd.func6, Tryd.ntmps6
  go_wp2_with fail
  refine (tokens_end s w hs ht).mono ?_
  rintro e w1 ⟨va, pa, ca, rfl, ha, hb1⟩
  have ht1 := ht.below hb1 ht.size
  have hca : (ca != 0) = true := by rw [bne_iff_ne]; exact fun h => HNO.out (ha.1 h)
  have HB1 := Lib.hid hb1
  clear hb1 ha
  go_wp2_with fail
  refine (wakes_any w1 ht1).mono ?_
  rintro e w2 ⟨rfl, hb2⟩
  have ht2 := ht1.below hb2 ht1.size
  have HB2 := Lib.hid (HB1.out.trans (hb2.mono HB1.out.size))
  clear hb2
  go_wp2_with fail
  refine (wakes_any w2 ht2).mono ?_
  rintro e w3 ⟨rfl, hb3⟩
  have HB3 := Lib.hid (HB2.out.trans (hb3.mono HB2.out.size))
  clear hb3
  go_wp2
  go_ret
  exact ⟨rfl, HB3.out⟩

set_option maxHeartbeats 2000000 in
set_option maxRecDepth 100000 in
theorem syntaxBlanks_yes (s : ByteArray) (ts : List Tok) (w : World) (hs : s.size ≤ maxLen) (ht : Tabs w) (h : lexAll s = .ok ts) :
    Calls Tryd.prog 6 #[.string s] w fun e w' => e = .returned (.bool true) ∧ Below w.heap.size w w' := by
  have hsz : s.size ≤ 16384 := (lexAll_from h).2
  have h' : lexFrom s 0 = .ok ts := (lexAll_from h).1
  have hn : 0 < ts.length := List.length_pos_iff.2 (lex_ok_ne _ _ h')
  have hl := lex_len 0 ts (by omega) h'
  have HP := Lib.hid (lex_place 0 ts (by omega) h')
  have HR := Lib.hid h
  have HHS := Lib.hid hs
  clear h h'
  go_enter Tryd.func6, Tryd.ntmps6
  go_wp2_with fail
  refine (tokens_any s w hs ht).mono ?_
  rw [HR.out]
  rintro e w1 ⟨va, rfl, hown, hb1⟩
  have ht1 := ht.below hb1 ht.size
  obtain ⟨ga, ca, rfl, hga1, hga2, hca, hra⟩ := row_of_own hown hn
  have HB1 := Lib.hid hb1
  have HRA := Lib.hid hra
  clear hb1 hown hra
  go_wp2_with fail
  refine (wakes_any w1 ht1).mono ?_
  rintro e w2 ⟨rfl, hb2⟩
  have ht2 := ht1.below hb2 ht1.size
  have HB2 := Lib.hid (HB1.out.trans (hb2.mono HB1.out.size))
  have HRA2 := Lib.hid (HRA.out.below hb2 hga2)
  have hga3 : ga < w2.heap.size := Nat.lt_of_lt_of_le hga2 hb2.size
  clear hb2 HRA HB1
  go_wp2
  go_loopw [6, 29] (fun sv i wr => ∃ (k : Nat) (S : ByteArray), k ≤ ts.length ∧ i = .int .i64 k ∧ sv = .string S ∧ S.data.toList = joinX (ts.take k) ∧ S.size ≤ k * 16389 ∧ Below w2.heap.size w2 wr) (fun _ i _ => ts.length - (intOf i).toNat)
  case atStart => exact ⟨0, ⟨#[]⟩, by omega, rfl, rfl, rfl, Nat.le_refl 0, Below.refl _ _⟩
  case round =>
    obtain ⟨k, S, hk, rfl, rfl, hS, hSl, hbr⟩ := hrel
    by_cases hlt : k < ts.length
    · have hka : ts[k]? = some ts[k] := List.getElem?_eq_getElem hlt
      have hpl := HP.out ts[k] (List.getElem_mem hlt)
      have HJ := Lib.hid (joinX_take ts k hlt)
      obtain ⟨a0, a1, a2, a3⟩ := HRA2.out.below hbr hga3 k _ hka
      generalize ts[k] = t at *
      have hz := hbr.size
      have hga4 : ga < wr.heap.size := by omega
      have HS := Lib.hid hS
      have HBR := Lib.hid hbr
      have htl : t.text.size ≤ 16384 := by omega
      have hmul : k * 16389 ≤ 16389 * 16389 := Nat.mul_le_mul_right _ (by omega)
      have hSb : S.size ≤ 268599321 := by omega
      clear hka hbr hS
      go_wp2
      go_roundw
      case rel => exact ⟨k + 1, S ++ ((⟨#[10]⟩ ++ t.text) ++ ⟨#[32, 35, 120, 10]⟩), by omega, by go_num, rfl, by rw [cat_list, cat_list, cat_list, HS.out, HJ.out, List.append_assoc]; rfl, by rw [ByteArray.size_append, ByteArray.size_append, ByteArray.size_append, show (⟨#[32, 35, 120, 10]⟩ : ByteArray).size = 4 from rfl, show (⟨#[10]⟩ : ByteArray).size = 1 from rfl]; omega, HBR.out.alloc hz _⟩
      case measure => simp [intOf]; omega
    · obtain rfl : k = ts.length := by omega
      rw [List.take_length] at hS
      have HS := Lib.hid hS
      have HBW := Lib.hid (HB2.out.trans (hbr.mono HB2.out.size))
      have htr := ht2.below hbr ht2.size
      clear hbr hS
      by_cases hbig : 16384 < S.size
      · have hbig' : 16384 < (S.size : Int) := by omega
        go_wp2
        go_ret
        exact ⟨rfl, HBW.out⟩
      · have hbig' : ¬ 16384 < (S.size : Int) := by omega
        obtain ⟨t1, t2, p1, p2, c, hp1, hp2, hTR⟩ := parse_blanks HR.out HS.out (by omega)
        have HG1 := Lib.hid (show t1.size ≤ 4096 by have := (parse_good s).2; rw [hp1] at this; exact this)
        have HG2 := Lib.hid (show t2.size ≤ 4096 by have := (parse_good S).2; rw [hp2] at this; exact this)
        have HP1 := Lib.hid hp1
        have HP2 := Lib.hid hp2
        have HAL := Lib.hid (TR.alike (b := false) (fun h => by cases h) hTR)
        have HTR := Lib.hid htr
        have hcc : (c == c) = true := by simp
        clear hp1 hp2 hTR htr ht2 ht1 ht hbig HS HP HRA2
        go_wp2_with fail
        refine (parse_any s wr HHS.out HTR.out).mono ?_
        rw [HP1.out]
        rintro e w3 ⟨k3, rfl, hk3, hb3⟩
        have HK3 := Lib.hid (show KAt 25 w3 t1.kids (fun b => wr.heap.size ≤ b) k3 from hk3)
        have HO3 := Lib.hid HK3.out.one
        have HB3 := Lib.hid (HBW.out.trans (hb3.mono HBW.out.size))
        have HT3 := Lib.hid (HTR.out.below hb3 HTR.out.size)
        have HN3 := Lib.hid (Blk.new w3 (nodeCells t1 k3) 25)
        clear hk3 hb3
        unfold NodeV
        go_wp2_with ((with_reducible refine at_st 25 (.tmp 9) ?_); refine wpList_store_new rfl 25 (.tmp 9) (.tmp 46) rfl (nodeCells t1 k3) (old := zeroNodeCells) rfl rfl Tryd.sizeNode rfl (nodeCells_one _ _ HO3.out) ?_)
        refine (parse_any S _ (by unfold maxLen; omega) HT3.out.alloc).mono ?_
        rw [HP2.out]
        rintro e w4 ⟨k4, rfl, hk4, hb4⟩
        have HK4 := Lib.hid (show KAt 25 w4 t2.kids _ k4 from hk4)
        have HO4 := Lib.hid HK4.out.one
        have HN4 := Lib.hid (HN3.out.below hb4)
        have HKA4 := Lib.hid ((HK3.out.alloc (.cells (nodeCells t1 k3).toArray 25)).below hb4)
        have HB4 := Lib.hid ((HB3.out.alloc HB3.out.size _).trans (hb4.mono (by simp; have := HB3.out.size; omega)))
        have hz34 := HN4.out.lt
        clear hk4 hb4 HN3 HK3
        unfold NodeV
        go_wp2_with ((with_reducible refine at_st 25 (.tmp 11) ?_); refine wpList_store_new rfl 25 (.tmp 11) (.tmp 52) rfl (nodeCells t2 k4) (old := zeroNodeCells) rfl rfl Tryd.sizeNode rfl (nodeCells_one _ _ HO4.out) ?_)
        have HN5 := Lib.hid (HN4.out.alloc (.cells (nodeCells t2 k4).toArray 25))
        have HM5 := Lib.hid (Blk.new w4 (nodeCells t2 k4) 25)
        have HKA5 := Lib.hid (HKA4.out.alloc (.cells (nodeCells t2 k4).toArray 25))
        have HKB5 := Lib.hid (HK4.out.alloc (.cells (nodeCells t2 k4).toArray 25))
        have HB5 := Lib.hid (HB4.out.alloc HB4.out.size (.cells (nodeCells t2 k4).toArray 25))
        clear HN4 HKA4 HK4 HB4
        generalize hw5 : w4.alloc (.cells (nodeCells t2 k4).toArray 25) = w5 at *
        clear hw5
        refine wp_region_held_drew (S := fun W => Blk W w3.heap.size (nodeCells t1 k3) 25 ∧ Blk W w4.heap.size (nodeCells t2 k4) 25) (by kernel_rfl) ⟨HN5.out.drew, HM5.out.drew⟩ (fun hS => ?_)
        refine wpAnyH_take (i := 0) (v := .int .i64 c) rfl (by kernel_rfl) (by kernel_rfl) (by kernel_rfl) (fun _ _ _ h => h) (Or.inl ⟨by rfl, fun W _ => by go_simp⟩) hS ?_
        refine wpAnyH_take (i := 1) (v := .int .i64 c) rfl (by kernel_rfl) (by kernel_rfl) (by kernel_rfl) (fun _ _ _ h => h) (Or.inl ⟨by rfl, fun W _ => by go_simp⟩) hS ?_
        refine wpAnyH_take (i := 2) (v := .bool true) rfl (by kernel_rfl) (by kernel_rfl) (by kernel_rfl) (fun _ _ _ h => h) (Or.inl ⟨by rfl, fun W _ => by go_simp⟩) hS ?_
        refine wpAnyH_take (i := 3) (v := .bool true) rfl (by kernel_rfl) (by kernel_rfl) (by kernel_rfl) (fun _ _ _ h => h) (Or.inl ⟨by rfl, fun W _ => by go_simp⟩) hS ?_
        refine wpAnyH_take (i := 4) (v := .agg (nodeCells t1 k3).toArray) rfl (by kernel_rfl) (by kernel_rfl) (by kernel_rfl) (fun _ _ _ h => h) (yieldsIf_load_mid (cs := nodeCells t1 k3) (by rfl) 25 (.tmp 9) rfl w3.heap.size 0 (by go_simp) _ (fun W hW j v hj => by rw [Nat.zero_add, hW.1.cell j]; exact hj) Tryd.underlying25 rfl Tryd.sizeNode) hS ?_
        refine wpAnyH_take (i := 6) (v := .agg (nodeCells t2 k4).toArray) rfl (by kernel_rfl) (by kernel_rfl) (by kernel_rfl) (fun _ _ _ h => h) (yieldsIf_load_mid (cs := nodeCells t2 k4) (by rfl) 25 (.tmp 11) rfl w4.heap.size 0 (by go_simp) _ (fun W hW j v hj => by rw [Nat.zero_add, hW.2.cell j]; exact hj) Tryd.underlying25 rfl Tryd.sizeNode) hS ?_
        refine AnyH.one (i := 5) (by kernel_rfl) rfl (by rfl) (fun K hK => ?_)
        go_simp
        refine (refTree_any _ t1 (Nat.le_refl _) HKA5.out.drew (by have := HG1.out; omega)).mono ?_
        rintro e w6 ⟨k6, rfl, hk6, hb6⟩
        have HK6 := Lib.hid hk6
        have HN6 := Lib.hid (HN5.out.drew.below hb6)
        have HM6 := Lib.hid (HM5.out.drew.below hb6)
        have HKB6 := Lib.hid (HKB5.out.drew.below hb6)
        have HB6 := Lib.hid (HB5.out.drew.trans (hb6.mono HB5.out.drew.size))
        clear hk6 hb6
        refine hK.out _ _ ⟨HN6.out, HM6.out⟩ ?_
        clear hK K
        refine AnyH.one (i := 7) (by kernel_rfl) rfl (by rfl) (fun K hK => ?_)
        go_simp
        refine (refTree_any _ t2 (Nat.le_refl _) HKB6.out (by have := HG2.out; omega)).mono ?_
        rintro e w7 ⟨k7, rfl, hk7, hb7⟩
        have HK7 := Lib.hid hk7
        have HN7 := Lib.hid (HN6.out.below hb7)
        have HM7 := Lib.hid (HM6.out.below hb7)
        have HKC7 := Lib.hid (HK6.out.below hb7)
        have HB7 := Lib.hid (HB6.out.trans (hb7.mono HB6.out.size))
        clear hk7 hb7
        refine hK.out _ _ ⟨HN7.out, HM7.out⟩ ?_
        clear hK K
        refine AnyH.one (i := 8) (by kernel_rfl) rfl (by rfl) (fun K hK => ?_)
        go_simp
        refine (alike_any _ t1 t2 false (Nat.le_refl _) HKC7.out HK7.out (by have := HG1.out; have := kids_len t1; omega) (by have := HG2.out; have := kids_len t2; omega) (by have := HG1.out; omega) (by have := HG2.out; omega)).mono ?_
        rintro e w8 ⟨rfl, hb8⟩
        have HN8 := Lib.hid (HN7.out.below hb8)
        have HM8 := Lib.hid (HM7.out.below hb8)
        have HB8 := Lib.hid (HB7.out.trans (hb8.mono HB7.out.size))
        clear hb8
        rw [HAL.out]
        refine hK.out _ _ ⟨HN8.out, HM8.out⟩ ?_
        clear hK K
        refine AnyH.one (i := 9) (by kernel_rfl) rfl (by rfl) (fun K hK => ?_)
        go_simp
        refine hK.out _ _ ⟨HN8.out, HM8.out⟩ ?_
        clear hK K
        refine AnyH.one (i := 10) (by kernel_rfl) rfl (by rfl) (fun K hK => ?_)
        go_simp
        refine hK.out _ _ ⟨HN8.out, HM8.out⟩ ?_
        clear hK K
        refine wpAnyH_done (by kernel_rfl) ?_ _
        go_wp2
        go_ret
        exact ⟨rfl, HB8.out⟩

theorem syntaxBlanks_walk (s : ByteArray) (w : World) (hs : s.size ≤ maxLen) (ht : Tabs w) :
    Calls Tryd.prog 6 #[.string s] w fun e w' => e = .returned (.bool true) ∧ Below w.heap.size w w' := by
  cases hr : lexAll s with
  | ok ts => exact syntaxBlanks_yes s ts w hs ht hr
  | error e => exact syntaxBlanks_no s w hs ht (by rintro ⟨ts, h⟩; rw [hr] at h; cases h)

theorem syntaxBlanks_reads (os : Os) {H : Type} (enc : TypeId × Value → H) : ∃ places, DataW.whole enc Tryd.prog ((laidWorld os).forCall (fun _ _ => 0) ⟨#[], #[.string ⟨#[]⟩], []⟩).memory Tryd.f6.params.toList Rows.syntaxBlanksSpec.vars false #[Value.string ⟨#[]⟩].toList 8 = some ([.lit (.string [])], [], places) :=
  ⟨[], by kernel_rfl⟩

set_option maxRecDepth 100000 in
theorem syntaxBlanks_lifted (os : Os) (started : os.Started) (H : Type) (enc : TypeId × Value → H) (F : Stop.Interp) :
    ReturnsInHanded {} Tryd.checked os 6 .any ((OpenSpec.ofChange Rows.syntaxBlanksSpec).preRow enc Tryd.prog Tryd.f6 Rows.syntaxBlanksRow.domain false Rows.syntaxBlanksRow.laid) (((OpenSpec.ofChange Rows.syntaxBlanksSpec).at F).post enc Tryd.prog Tryd.f6 false true false false) := by
  obtain ⟨places, hx⟩ := syntaxBlanks_reads os enc
  refine returnsInHanded_of_row (C := Tryd.checked) (s := OpenSpec.ofChange Rows.syntaxBlanksSpec) own started (by kernel_rfl) Tryd.func6
    (witness_row_at (enc := enc) (C := Tryd.checked) false (laidWorld os) #[.string ⟨#[]⟩] rfl (by kernel_rfl) (by kernel_rfl) (by kernel_rfl)
      (OpenSpec.preRow_of_cond 8 hx (by kernel_rfl) (fun k hk => by cases hk) (by kernel_rfl) (laid_met_text os))) ?_
  intro W base args ds gs before hval hW _ _ _ hL _ _
  exact text_contract Tryd.params6 (by kernel_rfl) rfl (fun _ => rfl) syntaxBlanks_walk W base args ds gs before hval hW hL

theorem syntaxBlanks_said : Rows.SyntaxBlanksSaid :=
  OpenClaim.holds_of_cond 6 Tryd.f6 rfl rfl rfl rfl rfl rfl rfl ⟨rfl, rfl, rfl, rfl, rfl⟩ rfl rfl rfl rfl rfl (by kernel_rfl) Tryd.func6 (by kernel_rfl)
    (of_decide_eq_true (by kernel_rfl)) (by unfold Func.isWrapper; first | (rw [if_pos (by decide +kernel)]; kernel_rfl) | (rw [if_neg (by decide +kernel)]; exact ⟨rfl, rfl⟩))
    (fun os started H enc _ F => by rw [OpenClaim.pre_eq_preRow]; exact syntaxBlanks_lifted os started H enc F)

theorem syntaxBlanks_plain (f : FuncId) (fn : Func) (hf : Tryd.pinned.checked.prog.funcNamed "lychgate/lychgatelaw02.SyntaxBlanks" = some f) (hfn : Tryd.pinned.checked.prog.funcs[f]? = some fn) :
    true = Tryd.pinned.checked.prog.looks [] ∧ ∀ (j : Nat) t, fn.params[j]? = some t → Tryd.pinned.checked.prog.wantsStandIn t = false := by
  obtain rfl : f = 6 := Option.some.inj ((show Tryd.prog.funcNamed "lychgate/lychgatelaw02.SyntaxBlanks" = some 6 by kernel_rfl).symm.trans hf) |>.symm
  obtain rfl : fn = Tryd.f6 := (Option.some.inj (Tryd.func6.symm.trans hfn)).symm
  refine ⟨by kernel_rfl, fun j t ht => ?_⟩
  rw [Tryd.params6] at ht
  obtain rfl : t = 9 := by simpa using Array.mem_of_getElem? ht
  exact (show Tryd.prog.wantsStandIn 9 = false by kernel_rfl)

theorem syntaxBlanks_card : Rows.SyntaxBlanksCardSaid :=
  Claim7.holds_tied_plain_at .later [] _ _ _ _ syntaxBlanks_said (fun _ h => by cases h) (by kernel_rfl) (fun _ h => by cases h) syntaxBlanks_row_tie rfl ⟨rfl, rfl⟩ (by kernel_rfl) rfl syntaxBlanks_plain (by kernel_rfl)

end Go.Proofs.YtflhniiemmahmaaDoor
