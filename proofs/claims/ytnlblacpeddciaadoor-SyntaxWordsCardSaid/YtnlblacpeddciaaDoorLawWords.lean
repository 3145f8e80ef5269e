/- Proved here: for every text that lychgatelaw02.SyntaxWords is called with, in every memory in which lex's tables stand as the program's text lays them, the call returns true and the text reads as before. Conditions: the package-level tables lex.keys, lex.blanks and lex.pairs hold what their initialisers lay (the card ties them to the program's text). -/
import Derived.Test.YtnlblacpeddciaaDoorWords
import Derived.Test.YtnlblacpeddciaaDoorTabs
namespace Go.Proofs.YtnlblacpeddciaaDoor
open Go.ChangeShapes Go.WideShapes Go.ChangeAt Go.RowKit

set_option maxRecDepth 100000 in
set_option maxHeartbeats 2000000 in
theorem syntaxWords_walk (s : ByteArray) (w : World) (hs : s.size ≤ maxLen) (ht : Tabs w) :
    Calls Tryd.prog 9 #[.string s] w fun e w' => e = .returned (.bool true) ∧ Below w.heap.size w w' := by
  have HT := Lib.hid ht
  have HGD := Lib.hid (parse_good s)
  go_enter Tryd.func9, Tryd.ntmps9
  go_wp2_with fail
  refine (parse_any s w hs ht).mono ?_
  generalize parseB s = q at HGD
  obtain ⟨t, p, c⟩ := q
  rintro e w1 ⟨kv, rfl, hk, hb⟩
  have HK := Lib.hid (show KAt 25 w1 t.kids (fun b => w.heap.size ≤ b) kv from hk)
  have HB := Lib.hid hb
  have HT1 := Lib.hid (ht.below hb ht.size)
  have HO := Lib.hid HK.out.one
  clear hk hb ht
  have HG := Lib.hid (show t.good = true ∧ t.size ≤ 4096 from HGD.out)
  have hsz : t.size ≤ 4096 := HG.out.2
  have HN := Lib.hid (show Blk _ w1.heap.size (nodeCells t kv) 25 from Blk.new w1 _ _)
  clear HGD
  unfold NodeV
  go_wp2_with ((with_reducible refine at_st 25 (.tmp 3) ?_); refine wpList_store_new rfl 25 (.tmp 3) (.tmp 11) rfl (nodeCells t kv) (old := zeroNodeCells) rfl rfl Tryd.sizeNode rfl (nodeCells_one _ _ HO.out) ?_)
  refine (wakes_any _ HT1.out.alloc).mono ?_
  rintro e w2 ⟨rfl, hb2⟩
  have HN2 := Lib.hid (HN.out.kp (Kp.of_below (pb := w2.heap.size) hb2) (by have := hb2.size; simp at this; omega))
  have HK2 := Lib.hid ((HK.out.alloc (.cells (nodeCells t kv).toArray 25)).below hb2)
  have HB2 := Lib.hid ((HB.out.alloc HB.out.size _).trans (hb2.mono (by simp; have := HB.out.size; omega)))
  have HT2 := Lib.hid (HT.out.below HB2.out HT.out.size)
  clear hb2 HN HK
  by_cases hc : c = 0
  · subst hc
    go_wp2_with ((with_reducible refine at_ld 25 (.tmp 3) ?_); refine wpList_load_blk rfl 25 (.tmp 3) rfl w1.heap.size (nodeCells t kv) rfl HN2.out Tryd.underlying25 rfl Tryd.sizeNode ?_)
    refine (words_any _ t (Nat.le_refl _) HT2.out HK2.out (by omega) HG.out.1).mono ?_
    rintro e w3 ⟨rfl, hb3⟩
    have HN3 := Lib.hid (HN2.out.kp (Kp.of_below (pb := w3.heap.size) hb3) (by have := hb3.size; have := HN2.out.lt; omega))
    have HK3 := Lib.hid (HK2.out.below hb3)
    have HB3 := Lib.hid (HB2.out.trans (hb3.mono HB2.out.size))
    clear hb3
    have c0 : w3.cell? ⟨w1.heap.size, 0, none⟩ = some (.int .i64 t.kind) := HN3.out.cell 0
    have c1 : w3.cell? ⟨w1.heap.size, 1, none⟩ = some (.string t.text) := HN3.out.cell 1
    have c2 : w3.cell? ⟨w1.heap.size, 2, none⟩ = some (.int .i64 t.num) := HN3.out.cell 2
    have c3 : w3.cell? ⟨w1.heap.size, 3, none⟩ = some (.int .i64 t.place) := HN3.out.cell 3
    have c4 : w3.cell? ⟨w1.heap.size, 4, none⟩ = some kv := HN3.out.cell 4
    go_wp2_with fail
    refine (size_any _ t (Nat.le_refl _) HK3.out (by omega)).mono ?_
    rintro e w4 ⟨rfl, hb4⟩
    have HB4 := Lib.hid (HB3.out.trans (hb4.mono HB3.out.size))
    clear hb4
    go_wp2_with fail
    go_ret
    exact ⟨ret_bool (decide_eq_true (by omega)), HB4.out⟩
  · go_wp2_with fail
    refine (wakes_any _ HT2.out).mono ?_
    rintro e w3 ⟨rfl, hb3⟩
    have HB3 := Lib.hid (HB2.out.trans (hb3.mono HB2.out.size))
    clear hb3
    go_wp2_with fail
    go_ret
    exact ⟨rfl, HB3.out⟩

theorem syntaxWords_reads (os : Os) {H : Type} (enc : TypeId × Value → H) : ∃ places, DataW.whole enc Tryd.prog ((laidWorld os).forCall (fun _ _ => 0) ⟨#[], #[.string ⟨#[]⟩], []⟩).memory Tryd.f9.params.toList Rows.syntaxWordsSpec.vars false #[Value.string ⟨#[]⟩].toList 8 = some ([.lit (.string [])], [], places) :=
  ⟨[], by kernel_rfl⟩

set_option maxRecDepth 100000 in
theorem syntaxWords_lifted (os : Os) (started : os.Started) (H : Type) (enc : TypeId × Value → H) (F : Stop.Interp) :
    ReturnsInHanded {} Tryd.checked os 9 .any ((OpenSpec.ofChange Rows.syntaxWordsSpec).preRow enc Tryd.prog Tryd.f9 Rows.syntaxWordsRow.domain false Rows.syntaxWordsRow.laid) (((OpenSpec.ofChange Rows.syntaxWordsSpec).at F).post enc Tryd.prog Tryd.f9 false true false false) := by
  obtain ⟨places, hx⟩ := syntaxWords_reads os enc
  refine returnsInHanded_of_row (C := Tryd.checked) (s := OpenSpec.ofChange Rows.syntaxWordsSpec) own started (by kernel_rfl) Tryd.func9
    (witness_row_at (enc := enc) (C := Tryd.checked) false (laidWorld os) #[.string ⟨#[]⟩] rfl (by kernel_rfl) (by kernel_rfl) (by kernel_rfl)
      (OpenSpec.preRow_of_cond 8 hx (by kernel_rfl) (fun k hk => by cases hk) (by kernel_rfl) (laid_met_text os))) ?_
  intro W base args ds gs before hval hW _ _ _ hL _ _
  exact text_contract Tryd.params9 (by kernel_rfl) rfl (fun _ => rfl) syntaxWords_walk W base args ds gs before hval hW hL

theorem syntaxWords_said : Rows.SyntaxWordsSaid :=
  OpenClaim.holds_of_cond 9 Tryd.f9 rfl rfl rfl rfl rfl rfl rfl ⟨rfl, rfl, rfl, rfl, rfl⟩ rfl rfl rfl rfl rfl (by kernel_rfl) Tryd.func9 (by kernel_rfl)
    (of_decide_eq_true (by kernel_rfl)) (by unfold Func.isWrapper; first | (rw [if_pos (by decide +kernel)]; kernel_rfl) | (rw [if_neg (by decide +kernel)]; exact ⟨rfl, rfl⟩))
    (fun os started H enc _ F => by rw [OpenClaim.pre_eq_preRow]; exact syntaxWords_lifted os started H enc F)

theorem syntaxWords_plain (f : FuncId) (fn : Func) (hf : Tryd.pinned.checked.prog.funcNamed "lychgate/lychgatelaw02.SyntaxWords" = some f) (hfn : Tryd.pinned.checked.prog.funcs[f]? = some fn) :
    true = Tryd.pinned.checked.prog.looks [] ∧ ∀ (j : Nat) t, fn.params[j]? = some t → Tryd.pinned.checked.prog.wantsStandIn t = false := by
  obtain rfl : f = 9 := Option.some.inj ((show Tryd.prog.funcNamed "lychgate/lychgatelaw02.SyntaxWords" = some 9 by kernel_rfl).symm.trans hf) |>.symm
  obtain rfl : fn = Tryd.f9 := (Option.some.inj (Tryd.func9.symm.trans hfn)).symm
  refine ⟨by kernel_rfl, fun j t ht => ?_⟩
  rw [Tryd.params9] at ht
  obtain rfl : t = 9 := by simpa using Array.mem_of_getElem? ht
  exact (show Tryd.prog.wantsStandIn 9 = false by kernel_rfl)

theorem syntaxWords_card : Rows.SyntaxWordsCardSaid :=
  Claim7.holds_tied_plain_at .later [] _ _ _ _ syntaxWords_said (fun _ h => by cases h) (by kernel_rfl) (fun _ h => by cases h) syntaxWords_row_tie rfl ⟨rfl, rfl⟩ (by kernel_rfl) rfl syntaxWords_plain (by kernel_rfl)

end Go.Proofs.YtnlblacpeddciaaDoor
