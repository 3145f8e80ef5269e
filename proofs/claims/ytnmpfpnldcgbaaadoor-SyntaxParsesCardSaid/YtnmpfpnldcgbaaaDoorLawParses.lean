/- Proved here: for every text that lychgatelaw02.SyntaxParses is called with, in every memory in which lex's tables stand as the program's text lays them, the call returns true and the text reads as before. Conditions: the package-level tables lex.keys, lex.blanks and lex.pairs hold what their initialisers lay (the card ties them to the program's text). -/
import Derived.Test.YtnmpfpnldcgbaaaDoorWakes2
import Derived.Test.YtnmpfpnldcgbaaaDoorToks
import Derived.Test.YtnmpfpnldcgbaaaDoorAlike
import Derived.Test.YtnmpfpnldcgbaaaDoorRefParse
import Derived.Test.YtnmpfpnldcgbaaaDoorTabs
import Derived.Test.YtnmpfpnldcgbaaaDoorLoc
import Derived.Deep.RegionWith
namespace Go.Proofs.YtnmpfpnldcgbaaaDoor
open Go.ChangeShapes Go.WideShapes Go.ChangeAt Go.RowKit

mutual
theorem alike_self (b : Bool) : ∀ t : T, alikeB b t t = true
  | .mk k s n p ks => by rw [alike_eq]; simp [T.kids, alikes_self b ks]
theorem alikes_self (b : Bool) : ∀ ts : List T, alikesB b ts ts = true
  | [] => by rw [alikesB]
  | t :: ts => by rw [alikes_cons, alike_self b t, alikes_self b ts]; rfl
end

theorem kids_le (t : T) (h : t.size ≤ 4096) : t.kids.length ≤ 1000000 := by
  have h1 : t.kids.length ≤ sizes t.kids := len_sizes t.kids
  have h2 : t.size = 1 + sizes t.kids := by cases t; rw [size_mk]; rfl
  omega
theorem box5 {w : World} {g : Nat} {t : T} {v : Value} {ty : TypeId} (h : Blk w g (nodeCells t v) ty) : w.cell? ⟨g, 0, none⟩ = some (.int .i64 t.kind) ∧ w.cell? ⟨g, 1, none⟩ = some (.string t.text) ∧ w.cell? ⟨g, 2, none⟩ = some (.int .i64 t.num) ∧ w.cell? ⟨g, 3, none⟩ = some (.int .i64 t.place) ∧ w.cell? ⟨g, 4, none⟩ = some v ∧ g < w.heap.size :=
  ⟨h.cell 0, h.cell 1, h.cell 2, h.cell 3, h.cell 4, h.lt⟩

structure LawSt (w : World) (r : T) (g1 g2 : Nat) (v1 v2 : Value) (S1 S2 : Nat → Prop) (W : World) : Prop where
  below : Below w.heap.size w W
  tabs : Tabs W
  one : Blk W g1 (nodeCells r v1) 25
  two : Blk W g2 (nodeCells r v2) 31
  k1 : KAt 25 W r.kids S1 v1
  k2 : KAt 31 W r.kids S2 v2
theorem LawSt.call {w W W' : World} {r : T} {g1 g2 : Nat} {v1 v2 : Value} {S1 S2 : Nat → Prop} (h : LawSt w r g1 g2 v1 v2 S1 S2 W) (hb : Below W.heap.size W W') : LawSt w r g1 g2 v1 v2 S1 S2 W' :=
  ⟨h.below.trans (hb.mono h.below.size), h.tabs.below hb h.tabs.size, h.one.below hb, h.two.below hb, h.k1.below hb, h.k2.below hb⟩
theorem LawSt.drew {w W : World} {r : T} {g1 g2 : Nat} {v1 v2 : Value} {S1 S2 : Nat → Prop} (h : LawSt w r g1 g2 v1 v2 S1 S2 W) : LawSt w r g1 g2 v1 v2 S1 S2 W.drew := h.call (Below.refl _ _).drew

set_option maxHeartbeats 4000000 in
set_option maxRecDepth 100000 in
theorem syntaxParses_walk (s : ByteArray) (w : World) (hs : s.size ≤ maxLen) (ht : Tabs w) :
    Calls Tryd.prog 3 #[.string s] w fun e w' => e = .returned (.bool true) ∧ Below w.heap.size w w' := by
  have hsz := (parse_good s).2
  have HHS := Lib.hid hs
  go_enter Tryd.func3, Tryd.ntmps3
  go_wp2_with fail
  refine (parse_any s _ hs ht).mono ?_
  rintro e w1 ⟨v1, rfl, hk1, hb1⟩
  have HT1 := Lib.hid (ht.below hb1 ht.size)
  have HK1 := Lib.hid hk1
  have HB1 := Lib.hid hb1
  clear hk1 hb1
  unfold NodeV
  go_wp2_with ((with_reducible refine at_st 25 (.tmp 3) ?_); refine wpList_store_new rfl 25 (.tmp 3) (.tmp 12) rfl (nodeCells (parseB s).1 v1) (old := zeroNodeCells) rfl rfl Tryd.sizeNode rfl (nodeCells_one _ _ HK1.out.one) ?_)
  refine (rparse_any s _ HHS.out).mono ?_
  rintro e w2 ⟨v2, rfl, hk2, hb2⟩
  have HO2 := Lib.hid hk2.one
  have HP := Lib.hid (show LawSt w (parseB s).1 w1.heap.size w2.heap.size v1 v2 _ _ (w2.alloc (.cells (nodeCells (parseB s).1 v2).toArray 31)) from by
    have hz1 := HB1.out.size
    have hN : Blk (w1.alloc (.cells (nodeCells (parseB s).1 v1).toArray 25)) w1.heap.size (nodeCells (parseB s).1 v1) 25 := Blk.new w1 _ _
    have hB2 : Below w.heap.size w w2 := (HB1.out.alloc hz1 _).trans (hb2.mono (by simp; omega))
    exact ⟨hB2.alloc hB2.size _, (HT1.out.alloc.below hb2 HT1.out.alloc.size).alloc, (hN.below hb2).alloc _, Blk.new w2 _ _, ((HK1.out.alloc _).below hb2).alloc _, hk2.alloc _⟩)
  clear hk2 hb2 HK1 HB1 HT1
  unfold NodeV
  go_wp2_with ((with_reducible refine at_st 31 (.tmp 6) ?_); refine wpList_store_new rfl 31 (.tmp 6) (.tmp 18) rfl (nodeCells (parseB s).1 v2) (old := zeroNodeCells) rfl rfl Tryd.sizeRef rfl (nodeCells_one _ _ HO2.out) ?_)
  have HSZ := Lib.hid hsz
  generalize w2.alloc (.cells (nodeCells (parseB s).1 v2).toArray 31) = W at *
  clear hsz
  refine wp_region_held_drew (S := fun W => Blk W w1.heap.size (nodeCells (parseB s).1 v1) 25 ∧ Blk W w2.heap.size (nodeCells (parseB s).1 v2) 31) (by kernel_rfl) (⟨HP.out.drew.one, HP.out.drew.two⟩) (fun hS => ?_)
  refine AnyH.one (i := 0) (o := ⟨some 21, _, _, _, _, _⟩) (by kernel_rfl) rfl (by rfl) (fun K hK => ?_)
  go_simp
  refine (wakes_any _ HP.out.drew.tabs).mono ?_
  rintro e wa ⟨rfl, hba⟩
  have HPa := Lib.hid (HP.out.drew.call hba)
  clear hba hS
  have hS : Blk wa w1.heap.size (nodeCells (parseB s).1 v1) 25 ∧ Blk wa w2.heap.size (nodeCells (parseB s).1 v2) 31 := ⟨HPa.out.one, HPa.out.two⟩
  refine hK.out _ _ hS ?_
  clear hK K
  try simp only [Act.put, List.setIfInBounds_toArray, List.set_cons_zero, List.set_cons_succ]
  refine wpAnyH_take (i := 1) (oi := ⟨some 22, _, _, _, _, _⟩) (v := .bool true) rfl (by kernel_rfl) (by kernel_rfl) (by kernel_rfl) (fun _ _ _ h => h) (Or.inl ⟨by rfl, fun W _ => by go_simp⟩) hS ?_
  try simp only [Act.put, List.setIfInBounds_toArray, List.set_cons_zero, List.set_cons_succ]
  refine wpAnyH_take (i := 2) (oi := ⟨some 23, _, _, _, _, _⟩) (v := .int .i64 ((parseB s).2.1 : Nat)) rfl (by kernel_rfl) (by kernel_rfl) (by kernel_rfl) (fun _ _ _ h => h) (Or.inl ⟨by rfl, fun W _ => by go_simp⟩) hS ?_
  try simp only [Act.put, List.setIfInBounds_toArray, List.set_cons_zero, List.set_cons_succ]
  refine wpAnyH_take (i := 3) (oi := ⟨some 24, _, _, _, _, _⟩) (v := .int .i64 ((parseB s).2.1 : Nat)) rfl (by kernel_rfl) (by kernel_rfl) (by kernel_rfl) (fun _ _ _ h => h) (Or.inl ⟨by rfl, fun W _ => by go_simp⟩) hS ?_
  try simp only [Act.put, List.setIfInBounds_toArray, List.set_cons_zero, List.set_cons_succ]
  refine wpAnyH_take (i := 4) (oi := ⟨some 25, _, _, _, _, _⟩) (v := .bool true) rfl (by kernel_rfl) (by kernel_rfl) (by kernel_rfl) (fun _ _ _ h => h) (Or.inl ⟨by rfl, fun W _ => by go_simp⟩) hS ?_
  try simp only [Act.put, List.setIfInBounds_toArray, List.set_cons_zero, List.set_cons_succ]
  refine wpAnyH_take (i := 5) (oi := ⟨some 26, _, _, _, _, _⟩) (v := .bool true) rfl (by kernel_rfl) (by kernel_rfl) (by kernel_rfl) (fun _ _ _ h => h) (Or.inl ⟨by rfl, fun W _ => by go_simp⟩) hS ?_
  try simp only [Act.put, List.setIfInBounds_toArray, List.set_cons_zero, List.set_cons_succ]
  refine wpAnyH_take (i := 6) (oi := ⟨some 27, _, _, _, _, _⟩) (v := .bool true) rfl (by kernel_rfl) (by kernel_rfl) (by kernel_rfl) (fun _ _ _ h => h) (Or.inl ⟨by rfl, fun W _ => by go_simp⟩) hS ?_
  try simp only [Act.put, List.setIfInBounds_toArray, List.set_cons_zero, List.set_cons_succ]
  refine wpAnyH_take (i := 7) (oi := ⟨some 28, _, _, _, _, _⟩) (v := .int .i64 (parseB s).2.2) rfl (by kernel_rfl) (by kernel_rfl) (by kernel_rfl) (fun _ _ _ h => h) (Or.inl ⟨by rfl, fun W _ => by go_simp⟩) hS ?_
  try simp only [Act.put, List.setIfInBounds_toArray, List.set_cons_zero, List.set_cons_succ]
  refine wpAnyH_take (i := 8) (oi := ⟨some 29, _, _, _, _, _⟩) (v := .int .i64 (parseB s).2.2) rfl (by kernel_rfl) (by kernel_rfl) (by kernel_rfl) (fun _ _ _ h => h) (Or.inl ⟨by rfl, fun W _ => by go_simp⟩) hS ?_
  try simp only [Act.put, List.setIfInBounds_toArray, List.set_cons_zero, List.set_cons_succ]
  refine wpAnyH_take (i := 9) (oi := ⟨some 30, _, _, _, _, _⟩) (v := .bool true) rfl (by kernel_rfl) (by kernel_rfl) (by kernel_rfl) (fun _ _ _ h => h) (Or.inl ⟨by rfl, fun W _ => by go_simp⟩) hS ?_
  try simp only [Act.put, List.setIfInBounds_toArray, List.set_cons_zero, List.set_cons_succ]
  refine wpAnyH_take (i := 10) (oi := ⟨some 31, _, _, _, _, _⟩) (v := .bool true) rfl (by kernel_rfl) (by kernel_rfl) (by kernel_rfl) (fun _ _ _ h => h) (Or.inl ⟨by rfl, fun W _ => by go_simp⟩) hS ?_
  try simp only [Act.put, List.setIfInBounds_toArray, List.set_cons_zero, List.set_cons_succ]
  refine wpAnyH_take (i := 11) (oi := ⟨some 32, _, _, _, _, _⟩) (v := .bool true) rfl (by kernel_rfl) (by kernel_rfl) (by kernel_rfl) (fun _ _ _ h => h) (Or.inl ⟨by rfl, fun W _ => by go_simp⟩) hS ?_
  try simp only [Act.put, List.setIfInBounds_toArray, List.set_cons_zero, List.set_cons_succ]
  refine wpAnyH_take (i := 12) (oi := ⟨some 33, _, _, _, _, _⟩) (v := .agg #[.int .i64 ((parseB s).1).kind, .string ((parseB s).1).text, .int .i64 ((parseB s).1).num, .int .i64 ((parseB s).1).place, v1]) rfl (by kernel_rfl) (by kernel_rfl) (by kernel_rfl) (fun _ _ _ h => h) (yieldsIf_load_mid (cs := nodeCells ((parseB s).1) (v1)) (by rfl) 25 (.tmp 3) rfl (w1.heap.size) (0) (by go_simp) _ (fun W hW j v hj => by rw [Nat.zero_add, (hW.1).cell j]; exact hj) Tryd.underlying25 rfl Tryd.sizeNode) hS ?_
  try simp only [Act.put, List.setIfInBounds_toArray, List.set_cons_zero, List.set_cons_succ]
  refine wpAnyH_take (i := 14) (oi := ⟨some 35, _, _, _, _, _⟩) (v := .agg #[.int .i64 ((parseB s).1).kind, .string ((parseB s).1).text, .int .i64 ((parseB s).1).num, .int .i64 ((parseB s).1).place, v2]) rfl (by kernel_rfl) (by kernel_rfl) (by kernel_rfl) (fun _ _ _ h => h) (yieldsIf_load_mid (cs := nodeCells ((parseB s).1) (v2)) (by rfl) 31 (.tmp 6) rfl (w2.heap.size) (0) (by go_simp) _ (fun W hW j v hj => by rw [Nat.zero_add, (hW.2).cell j]; exact hj) Tryd.underlying31 rfl Tryd.sizeRef) hS ?_
  try simp only [Act.put, List.setIfInBounds_toArray, List.set_cons_zero, List.set_cons_succ]
  refine AnyH.one (i := 13) (o := ⟨some 34, _, _, _, _, _⟩) (by kernel_rfl) rfl (by rfl) (fun K hK => ?_)
  go_simp
  refine (refTree_any _ (parseB s).1 (Nat.le_refl _) HPa.out.k1 (by have := HSZ.out; omega)).mono ?_
  rintro e wb ⟨v4, rfl, hk4, hbb⟩
  have HK4 := Lib.hid hk4
  clear hk4
  have HPb := Lib.hid (HPa.out.call hbb)
  clear hbb hS
  have hS : Blk wb w1.heap.size (nodeCells (parseB s).1 v1) 25 ∧ Blk wb w2.heap.size (nodeCells (parseB s).1 v2) 31 := ⟨HPb.out.one, HPb.out.two⟩
  unfold NodeV
  refine hK.out _ _ hS ?_
  clear hK K
  try simp only [Act.put, List.setIfInBounds_toArray, List.set_cons_zero, List.set_cons_succ]
  refine AnyH.one (i := 15) (o := ⟨some 36, _, _, _, _, _⟩) (by kernel_rfl) rfl (by rfl) (fun K hK => ?_)
  go_simp
  refine (alike_any _ (parseB s).1 (parseB s).1 true (Nat.le_refl _) HK4.out HPb.out.k2 (kids_le _ HSZ.out) (kids_le _ HSZ.out) (by have := HSZ.out; omega) (by have := HSZ.out; omega)).mono ?_
  rw [alike_self]
  rintro e wc ⟨rfl, hbc⟩
  have HPc := Lib.hid (HPb.out.call hbc)
  clear hbc hS
  have hS : Blk wc w1.heap.size (nodeCells (parseB s).1 v1) 25 ∧ Blk wc w2.heap.size (nodeCells (parseB s).1 v2) 31 := ⟨HPc.out.one, HPc.out.two⟩
  refine hK.out _ _ hS ?_
  clear hK K
  try simp only [Act.put, List.setIfInBounds_toArray, List.set_cons_zero, List.set_cons_succ]
  refine wpAnyH_take (i := 16) (oi := ⟨some 37, _, _, _, _, _⟩) (v := .bool true) rfl (by kernel_rfl) (by kernel_rfl) (by kernel_rfl) (fun _ _ _ h => h) (Or.inl ⟨by rfl, fun W _ => by go_simp⟩) hS ?_
  try simp only [Act.put, List.setIfInBounds_toArray, List.set_cons_zero, List.set_cons_succ]
  refine wpAnyH_take (i := 17) (oi := ⟨some 2, _, _, _, _, _⟩) (v := .bool true) rfl (by kernel_rfl) (by kernel_rfl) (by kernel_rfl) (fun _ _ _ h => h) (Or.inl ⟨by rfl, fun W _ => by go_simp⟩) hS ?_
  try simp only [Act.put, List.setIfInBounds_toArray, List.set_cons_zero, List.set_cons_succ]
  refine wpAnyH_done (by kernel_rfl) ?_ _
  clear hS
  go_wp2
  go_ret
  exact ⟨rfl, HPc.out.below⟩

theorem syntaxParses_reads (os : Os) {H : Type} (enc : TypeId × Value → H) : ∃ places, DataW.whole enc Tryd.prog ((laidWorld os).forCall (fun _ _ => 0) ⟨#[], #[.string ⟨#[]⟩], []⟩).memory Tryd.f3.params.toList Rows.syntaxParsesSpec.vars false #[Value.string ⟨#[]⟩].toList 8 = some ([.lit (.string [])], [], places) :=
  ⟨[], by kernel_rfl⟩

set_option maxRecDepth 100000 in
theorem syntaxParses_lifted (os : Os) (started : os.Started) (H : Type) (enc : TypeId × Value → H) (F : Stop.Interp) :
    ReturnsInHanded {} Tryd.checked os 3 .any ((OpenSpec.ofChange Rows.syntaxParsesSpec).preRow enc Tryd.prog Tryd.f3 Rows.syntaxParsesRow.domain false Rows.syntaxParsesRow.laid) (((OpenSpec.ofChange Rows.syntaxParsesSpec).at F).post enc Tryd.prog Tryd.f3 false true false false) := by
  obtain ⟨places, hx⟩ := syntaxParses_reads os enc
  refine returnsInHanded_of_row (C := Tryd.checked) (s := OpenSpec.ofChange Rows.syntaxParsesSpec) own started (by kernel_rfl) Tryd.func3
    (witness_row_at (enc := enc) (C := Tryd.checked) false (laidWorld os) #[.string ⟨#[]⟩] rfl (by kernel_rfl) (by kernel_rfl) (by kernel_rfl)
      (OpenSpec.preRow_of_cond 8 hx (by kernel_rfl) (fun k hk => by cases hk) (by kernel_rfl) (laid_met_text os))) ?_
  intro W base args ds gs before hval hW _ _ _ hL _ _
  exact text_contract Tryd.params3 (by kernel_rfl) rfl (fun _ => rfl) syntaxParses_walk W base args ds gs before hval hW hL

theorem syntaxParses_said : Rows.SyntaxParsesSaid :=
  OpenClaim.holds_of_cond 3 Tryd.f3 rfl rfl rfl rfl rfl rfl rfl ⟨rfl, rfl, rfl, rfl, rfl⟩ rfl rfl rfl rfl rfl (by kernel_rfl) Tryd.func3 (by kernel_rfl)
    (of_decide_eq_true (by kernel_rfl)) (by unfold Func.isWrapper; first | (rw [if_pos (by decide +kernel)]; kernel_rfl) | (rw [if_neg (by decide +kernel)]; exact ⟨rfl, rfl⟩))
    (fun os started H enc _ F => by rw [OpenClaim.pre_eq_preRow]; exact syntaxParses_lifted os started H enc F)

theorem syntaxParses_plain (f : FuncId) (fn : Func) (hf : Tryd.pinned.checked.prog.funcNamed "lychgate/lychgatelaw02.SyntaxParses" = some f) (hfn : Tryd.pinned.checked.prog.funcs[f]? = some fn) :
    true = Tryd.pinned.checked.prog.looks [] ∧ ∀ (j : Nat) t, fn.params[j]? = some t → Tryd.pinned.checked.prog.wantsStandIn t = false := by
  obtain rfl : f = 3 := Option.some.inj ((show Tryd.prog.funcNamed "lychgate/lychgatelaw02.SyntaxParses" = some 3 by kernel_rfl).symm.trans hf) |>.symm
  obtain rfl : fn = Tryd.f3 := (Option.some.inj (Tryd.func3.symm.trans hfn)).symm
  refine ⟨by kernel_rfl, fun j t ht => ?_⟩
  rw [Tryd.params3] at ht
  obtain rfl : t = 9 := by simpa using Array.mem_of_getElem? ht
  exact (show Tryd.prog.wantsStandIn 9 = false by kernel_rfl)

theorem syntaxParses_card : Rows.SyntaxParsesCardSaid :=
  Claim7.holds_tied_plain_at .later [] _ _ _ _ syntaxParses_said (fun _ h => by cases h) (by kernel_rfl) (fun _ h => by cases h) syntaxParses_row_tie rfl ⟨rfl, rfl⟩ (by kernel_rfl) rfl syntaxParses_plain (by kernel_rfl)

end Go.Proofs.YtnmpfpnldcgbaaaDoor
