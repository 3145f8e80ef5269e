/- Proved here: for every two texts that lychgatelaw08.LinkParts is called with, in every memory in which lex's tables stand as the program's text lays them, the call returns true and the texts read as before. Conditions: the package-level tables lex.keys, lex.blanks and lex.pairs hold what their initialisers lay (the card ties them to the program's text). -/
import Derived.Test.YtnmpfpnldcgbaaaDoorWakes8
import Derived.Test.YtnmpfpnldcgbaaaDoorTabs2
import Derived.Test.YtnmpfpnldcgbaaaDoorStands
namespace Go.Proofs.YtnmpfpnldcgbaaaDoor
open Go.ChangeShapes Go.WideShapes Go.ChangeAt Go.RowKit Go.Maps

set_option maxHeartbeats 2000000 in
set_option maxRecDepth 100000 in
theorem linkParts_walk (a b : ByteArray) (w : World) (hsa : a.size ≤ maxLen) (hsb : b.size ≤ maxLen) (_ : a.size ≤ 140737488351232) (_ : b.size ≤ 140737488351232) (ht : Tabs w) :
    Calls Tryd.prog 10 #[.string a, .string b] w fun e w' => e = .returned (.bool true) ∧ Below w.heap.size w w' := by
  have HT := Lib.hid ht
  have ga := Lib.hid (parse_linkOk a)
  have gb := Lib.hid (parse_linkOk b)
  obtain ⟨ta, pa, ca, hqa⟩ : ∃ t p c, parseB a = (t, p, c) := ⟨_, _, _, rfl⟩
  obtain ⟨tb, pb, cb, hqb⟩ : ∃ t p c, parseB b = (t, p, c) := ⟨_, _, _, rfl⟩
  rw [hqa] at ga
  rw [hqb] at gb
  have HQA := Lib.hid hqa
  have HQB := Lib.hid hqb
  have HSA := Lib.hid hsa
  have HSB := Lib.hid hsb
  clear ht hqa hqb hsa hsb
  go_enter Tryd.func10, Tryd.ntmps10
  go_wp2_with fail
  refine (parse_any a w HSA.out HT.out).mono ?_
  rw [HQA.out]
  rintro e w1 ⟨kva, rfl, hka, hb1⟩
  have HOA := Lib.hid (KAt.one hka)
  have HKA := Lib.hid (KAt.alloc hka (.cells (nodeCells ta kva).toArray 25))
  have HBA := Lib.hid (hb1.alloc hb1.size (.cells (nodeCells ta kva).toArray 25))
  have HNA := Lib.hid (Blk.new w1 (nodeCells ta kva) 25)
  have HTA := Lib.hid (HT.out.below HBA.out HT.out.size)
  clear hka hb1
  unfold NodeV
  go_wp2_with ((with_reducible refine at_st 25 (.tmp 5) ?_); refine wpList_store_new rfl 25 (.tmp 5) (.tmp 18) rfl (nodeCells ta kva) (old := zeroNodeCells) rfl rfl Tryd.sizeNode rfl (nodeCells_one _ _ HOA.out) ?_)
  refine (parse_any b _ HSB.out HTA.out).mono ?_
  rw [HQB.out]
  rintro e w2 ⟨kvb, rfl, hkb, hb2⟩
  have HOB := Lib.hid (KAt.one hkb)
  have HKB := Lib.hid (KAt.alloc hkb (.cells (nodeCells tb kvb).toArray 25))
  have hb2' : Below (w1.alloc (.cells (nodeCells ta kva).toArray 25)).heap.size (w1.alloc (.cells (nodeCells ta kva).toArray 25)) (w2.alloc (.cells (nodeCells tb kvb).toArray 25)) := hb2.alloc hb2.size _
  have HKA2 := Lib.hid (HKA.out.below hb2')
  have HNA2 := Lib.hid (HNA.out.stays hb2')
  have HNB := Lib.hid (Blk.new w2 (nodeCells tb kvb) 25)
  have HBB := Lib.hid (HBA.out.trans (hb2'.mono HBA.out.size))
  have HTB := Lib.hid (HT.out.below HBB.out HT.out.size)
  clear hkb hb2 hb2' HKA HNA HTA HBA
  obtain ⟨W2, hW2⟩ : ∃ W, w2.alloc (.cells (nodeCells tb kvb).toArray 25) = W := ⟨_, rfl⟩
  rw [hW2] at HKB HKA2 HNA2 HNB HBB HTB
  unfold NodeV
  go_wp2_with ((with_reducible refine at_st 25 (.tmp 8) ?_); refine wpList_store_new rfl 25 (.tmp 8) (.tmp 24) rfl (nodeCells tb kvb) (old := zeroNodeCells) rfl rfl Tryd.sizeNode rfl (nodeCells_one _ _ HOB.out) ?_)
  first | refine calls_at W2 hW2 ?_ | skip
  clear hW2
  refine (wakes8_any W2 HTB.out).mono ?_
  rintro e w3 ⟨rfl, hb3⟩
  have HKA3 := Lib.hid (HKA2.out.below hb3)
  have HNA3 := Lib.hid (HNA2.out.stays hb3)
  have HKB3 := Lib.hid (HKB.out.below hb3)
  have HNB3 := Lib.hid (HNB.out.stays hb3)
  have HB3 := Lib.hid (HBB.out.trans (hb3.mono HBB.out.size))
  have HT3 := Lib.hid (HT.out.below HB3.out HT.out.size)
  clear hb3 HKA2 HNA2 HKB HNB HBB HTB
  by_cases hab : ca = 0 ∧ cb = 0
  · obtain ⟨rfl, rfl⟩ := hab
    go_wp2_with (first
      | ((with_reducible refine at_ld 25 (.tmp 5) ?_); refine wpList_load_blk rfl 25 (.tmp 5) rfl w1.heap.size (nodeCells ta kva) rfl HNA3.out Tryd.underlying25 rfl Tryd.sizeNode ?_)
      | ((with_reducible refine at_ld 25 (.tmp 8) ?_); refine wpList_load_blk rfl 25 (.tmp 8) rfl w2.heap.size (nodeCells tb kvb) rfl HNB3.out Tryd.underlying25 rfl Tryd.sizeNode ?_))
    refine (link_ok HKA3.out HKB3.out ga.out gb.out).mono ?_
    rintro e w4 ⟨v4, rfl, hc4, hb4⟩
    have HKA4 := Lib.hid (HKA3.out.below hb4)
    have HNA4 := Lib.hid (HNA3.out.stays hb4)
    have HKB4 := Lib.hid (HKB3.out.below hb4)
    have HNB4 := Lib.hid (HNB3.out.stays hb4)
    have HB4 := Lib.hid (HB3.out.trans (hb4.mono HB3.out.size))
    have hnc : w3.heap.size ≤ w4.heap.size := hb4.size
    clear hb4 HKA3 HNA3 HKB3 HNB3 HB3
    obtain ⟨va4, vc4, rfl⟩ := hc4.slice
    have HC4 := Lib.hid hc4
    clear hc4
    obtain ⟨n4, hn4⟩ : ∃ n, (linkL ta tb).1.codes.length = n := ⟨_, rfl⟩
    rw [hn4]
    clear hn4
    rcases linkL_form ta tb with ⟨p, is, er, hr, h55 | ⟨her, hst⟩⟩ | ⟨m, hr, hm⟩
    · obtain ⟨rfl, rfl, rfl⟩ := h55
      rw [hr]
      have HB5 := Lib.hid (HB4.out.alloc HB4.out.size (.cells [.slice va4 n4 vc4, .int .i64 0, .int .i64 0].toArray 60))
      go_wp2_with ((with_reducible refine at_st 60 (.tmp 11) ?_); refine wpList_store_new rfl 60 (.tmp 11) (.tmp 42) rfl [.slice va4 n4 vc4, .int .i64 0, .int .i64 0] (old := imgCells (.slice none 0 0) 0 0) rfl rfl Tryd.sizeImage rfl (by intro x hx; simp only [List.mem_cons, List.not_mem_nil, or_false] at hx; rcases hx with rfl | rfl | rfl <;> rfl) ?_)
      go_ret
      exact ⟨rfl, HB5.out⟩
    · rw [hr]
      have HST := Lib.hid (hst ga.out.w gb.out.w (by have := ga.out.s; omega) (by have := gb.out.s; omega))
      have he0 : (er == 0) = false := by simp; omega
      have he1 : (er == 55) = false := by simp; omega
      have HB5 := Lib.hid (HB4.out.alloc HB4.out.size (.cells [.slice va4 n4 vc4, .int .i64 0, .int .i64 0].toArray 60))
      have HKA5 := Lib.hid (HKA4.out.alloc (.cells [.slice va4 n4 vc4, .int .i64 0, .int .i64 0].toArray 60))
      have HKB5 := Lib.hid (HKB4.out.alloc (.cells [.slice va4 n4 vc4, .int .i64 0, .int .i64 0].toArray 60))
      have HNA5 := Lib.hid (HNA4.out.alloc (.cells [.slice va4 n4 vc4, .int .i64 0, .int .i64 0].toArray 60))
      have HNB5 := Lib.hid (HNB4.out.alloc (.cells [.slice va4 n4 vc4, .int .i64 0, .int .i64 0].toArray 60))
      clear hr her hst
      cases is with
      | true =>
        go_wp2_with (first
          | ((with_reducible refine at_st 60 (.tmp 11) ?_); refine wpList_store_new rfl 60 (.tmp 11) (.tmp 42) rfl [.slice va4 n4 vc4, .int .i64 0, .int .i64 0] (old := imgCells (.slice none 0 0) 0 0) rfl rfl Tryd.sizeImage rfl (by intro x hx; simp only [List.mem_cons, List.not_mem_nil, or_false] at hx; rcases hx with rfl | rfl | rfl <;> rfl) ?_)
          | ((with_reducible refine at_ld 25 (.tmp 8) ?_); refine wpList_load_blk rfl 25 (.tmp 8) rfl w2.heap.size (nodeCells tb kvb) rfl HNB5.out Tryd.underlying25 rfl Tryd.sizeNode ?_))
        refine (stands_any p _ tb (Nat.le_refl _) HKB5.out (by have := gb.out.s; omega)).mono ?_
        rintro e w6 ⟨rfl, hb6⟩
        have HB6 := Lib.hid (HB5.out.trans (hb6.mono HB5.out.size))
        clear hb6
        have hs : tb.standsB p = true := HST.out
        rw [hs]
        go_wp2_with fail
        go_ret
        exact ⟨rfl, HB6.out⟩
      | false =>
        go_wp2_with (first
          | ((with_reducible refine at_st 60 (.tmp 11) ?_); refine wpList_store_new rfl 60 (.tmp 11) (.tmp 42) rfl [.slice va4 n4 vc4, .int .i64 0, .int .i64 0] (old := imgCells (.slice none 0 0) 0 0) rfl rfl Tryd.sizeImage rfl (by intro x hx; simp only [List.mem_cons, List.not_mem_nil, or_false] at hx; rcases hx with rfl | rfl | rfl <;> rfl) ?_)
          | ((with_reducible refine at_ld 25 (.tmp 5) ?_); refine wpList_load_blk rfl 25 (.tmp 5) rfl w1.heap.size (nodeCells ta kva) rfl HNA5.out Tryd.underlying25 rfl Tryd.sizeNode ?_))
        refine (stands_any p _ ta (Nat.le_refl _) HKA5.out (by have := ga.out.s; omega)).mono ?_
        rintro e w6 ⟨rfl, hb6⟩
        have HB6 := Lib.hid (HB5.out.trans (hb6.mono HB5.out.size))
        clear hb6
        have hs : ta.standsB p = true := HST.out
        rw [hs]
        go_wp2_with fail
        go_ret
        exact ⟨rfl, HB6.out⟩
    · rw [hr]
      have HB5 := Lib.hid (HB4.out.alloc HB4.out.size (.cells [.slice va4 n4 vc4, .int .i64 m.libs, .int .i64 m.main].toArray 60))
      clear hr hm
      go_wp2_with ((with_reducible refine at_st 60 (.tmp 11) ?_); refine wpList_store_new rfl 60 (.tmp 11) (.tmp 42) rfl [.slice va4 n4 vc4, .int .i64 m.libs, .int .i64 m.main] (old := imgCells (.slice none 0 0) 0 0) rfl rfl Tryd.sizeImage rfl (by intro x hx; simp only [List.mem_cons, List.not_mem_nil, or_false] at hx; rcases hx with rfl | rfl | rfl <;> rfl) ?_)
      go_ret
      exact ⟨rfl, HB5.out⟩
  · have herr : (ca = 0 ∧ (cb != 0) = true) ∨ (ca != 0) = true := by
      simp only [bne_iff_ne, ne_eq]
      by_cases h : ca = 0
      · exact .inl ⟨h, fun h' => hab ⟨h, h'⟩⟩
      · exact .inr h
    rcases herr with ⟨rfl, h2⟩ | h2
    all_goals
      go_wp2_with fail
      refine (wakes8_any _ HT3.out).mono ?_
      rintro e w5 ⟨rfl, hb5⟩
      have HB5 := Lib.hid (HB3.out.trans (hb5.mono HB3.out.size))
      clear hb5
      go_wp2_with fail
      go_ret
      exact ⟨rfl, HB5.out⟩

theorem linkParts_reads (os : Os) {H : Type} (enc : TypeId × Value → H) : ∃ places, DataW.whole enc Tryd.prog ((laidWorld os).forCall (fun _ _ => 0) ⟨#[], #[.string ⟨#[]⟩, .string ⟨#[]⟩], []⟩).memory Tryd.f10.params.toList Rows.linkPartsSpec.vars false #[Value.string ⟨#[]⟩, Value.string ⟨#[]⟩].toList 8 = some ([.lit (.string []), .lit (.string [])], [], places) :=
  ⟨[], by kernel_rfl⟩

set_option maxRecDepth 100000 in
theorem linkParts_lifted (os : Os) (started : os.Started) (H : Type) (enc : TypeId × Value → H) (F : Stop.Interp) :
    ReturnsInHanded {} Tryd.checked os 10 .any ((OpenSpec.ofChange Rows.linkPartsSpec).preRow enc Tryd.prog Tryd.f10 Rows.linkPartsRow.domain false Rows.linkPartsRow.laid) (((OpenSpec.ofChange Rows.linkPartsSpec).at F).post enc Tryd.prog Tryd.f10 false true false false) := by
  obtain ⟨places, hx⟩ := linkParts_reads os enc
  refine returnsInHanded_of_row (C := Tryd.checked) (s := OpenSpec.ofChange Rows.linkPartsSpec) own started (by kernel_rfl) Tryd.func10
    (witness_row_at (enc := enc) (C := Tryd.checked) false (laidWorld os) #[.string ⟨#[]⟩, .string ⟨#[]⟩] rfl (by kernel_rfl) (by kernel_rfl) (by kernel_rfl)
      (OpenSpec.preRow_of_cond 8 hx (by kernel_rfl) (fun k hk => by cases hk) (by kernel_rfl) (laid_met_texts os))) ?_
  intro W base args ds gs before hval hW _ _ hreach hL _ _
  exact texts_contract Tryd.params10 (by kernel_rfl) rfl (fun _ _ => rfl) linkParts_walk W base args ds gs before hval hW hreach hL

theorem linkParts_said : Rows.LinkPartsSaid :=
  OpenClaim.holds_of_cond 10 Tryd.f10 rfl rfl rfl rfl rfl rfl rfl ⟨rfl, rfl, rfl, rfl, rfl⟩ rfl rfl rfl rfl rfl (by kernel_rfl) Tryd.func10 (by kernel_rfl)
    (of_decide_eq_true (by kernel_rfl)) (by unfold Func.isWrapper; first | (rw [if_pos (by decide +kernel)]; kernel_rfl) | (rw [if_neg (by decide +kernel)]; exact ⟨rfl, rfl⟩))
    (fun os started H enc _ F => by rw [OpenClaim.pre_eq_preRow]; exact linkParts_lifted os started H enc F)

theorem linkParts_plain (f : FuncId) (fn : Func) (hf : Tryd.pinned.checked.prog.funcNamed "lychgate/lychgatelaw08.LinkParts" = some f) (hfn : Tryd.pinned.checked.prog.funcs[f]? = some fn) :
    true = Tryd.pinned.checked.prog.looks [] ∧ ∀ (j : Nat) t, fn.params[j]? = some t → Tryd.pinned.checked.prog.wantsStandIn t = false := by
  obtain rfl : f = 10 := Option.some.inj ((show Tryd.prog.funcNamed "lychgate/lychgatelaw08.LinkParts" = some 10 by kernel_rfl).symm.trans hf) |>.symm
  obtain rfl : fn = Tryd.f10 := (Option.some.inj (Tryd.func10.symm.trans hfn)).symm
  refine ⟨by kernel_rfl, fun j t ht => ?_⟩
  rw [Tryd.params10] at ht
  obtain rfl : t = 9 := by simpa using Array.mem_of_getElem? ht
  exact (show Tryd.prog.wantsStandIn 9 = false by kernel_rfl)

theorem linkParts_card : Rows.LinkPartsCardSaid :=
  Claim7.holds_tied_plain_at .later [] _ _ _ _ linkParts_said (fun _ h => by cases h) (by kernel_rfl) (fun _ h => by cases h) linkParts_row_tie rfl ⟨rfl, rfl⟩ (by kernel_rfl) rfl linkParts_plain (by kernel_rfl)

end Go.Proofs.YtnmpfpnldcgbaaaDoor
