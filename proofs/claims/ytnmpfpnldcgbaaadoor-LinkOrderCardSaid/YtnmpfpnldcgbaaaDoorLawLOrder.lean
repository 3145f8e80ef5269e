/- Proved here: for every two texts that lychgatelaw08.LinkOrder is called with, in every memory in which lex's tables stand as the program's text lays them, the call returns true and the texts read as before. Conditions: the package-level tables lex.keys, lex.blanks and lex.pairs hold what their initialisers lay (the card ties them to the program's text). -/
import Derived.Test.YtnmpfpnldcgbaaaDoorWakes8
import Derived.Test.YtnmpfpnldcgbaaaDoorTabs2
import Derived.Test.YtnmpfpnldcgbaaaDoorLnkR
import Derived.Test.YtnmpfpnldcgbaaaDoorP36
namespace Go.Proofs.YtnmpfpnldcgbaaaDoor
open Go.ChangeShapes Go.WideShapes Go.ChangeAt Go.RowKit Go.Maps

set_option maxHeartbeats 2000000 in
set_option maxRecDepth 100000 in
theorem linkOrder_walk (a b : ByteArray) (w : World) (hsa : a.size ≤ maxLen) (hsb : b.size ≤ maxLen) (_ : a.size ≤ 140737488351232) (_ : b.size ≤ 140737488351232) (ht : Tabs w) :
    Calls Tryd.prog 12 #[.string a, .string b] w fun e w' => e = .returned (.bool true) ∧ Below w.heap.size w w' := by
  have HT := Lib.hid ht
  have ga := Lib.hid (parse_linkOk a)
  have gb := Lib.hid (parse_linkOk b)
  obtain ⟨ta, pa, ca, hqa⟩ : ∃ t p c, parseB a = (t, p, c) := ⟨_, _, _, rfl⟩
  obtain ⟨tb, pb, cb, hqb⟩ : ∃ t p c, parseB b = (t, p, c) := ⟨_, _, _, rfl⟩
  rw [hqa] at ga
  rw [hqb] at gb
  have HQA := Lib.hid hqa
  have HQB := Lib.hid hqb
  have HSA := Lib.hid hsa
  have HSB := Lib.hid hsb
  have HLA := Lib.hid (show ta.kids.length ≤ 4990 from by
    have h1 := len_sizes ta.kids
    have h2 : ta.size = 1 + sizes ta.kids := by cases ta; rw [size_mk]; rfl
    have h3 : ta.size ≤ 4990 := ga.out.s
    omega)
  have HLB := Lib.hid (show tb.kids.length ≤ 4990 from by
    have h1 := len_sizes tb.kids
    have h2 : tb.size = 1 + sizes tb.kids := by cases tb; rw [size_mk]; rfl
    have h3 : tb.size ≤ 4990 := gb.out.s
    omega)
  clear ht hqa hqb hsa hsb
  go_enter Tryd.func12, Tryd.ntmps12
  go_wp2_with fail
  refine (parse_any a w HSA.out HT.out).mono ?_
  rw [HQA.out]
  rintro e w1 ⟨kva, rfl, hka, hb1⟩
  have HOA := Lib.hid (KAt.one hka)
  have HKA := Lib.hid (KAt.alloc hka (.cells (nodeCells ta kva).toArray 25))
  have HBA := Lib.hid (hb1.alloc hb1.size (.cells (nodeCells ta kva).toArray 25))
  have HNA := Lib.hid (Blk.new w1 (nodeCells ta kva) 25)
  have HBW1 := Lib.hid HBA.out.size
  have HTA := Lib.hid (HT.out.below HBA.out HT.out.size)
  clear hka hb1
  unfold NodeV
  go_wp2_with ((with_reducible refine at_st 25 (.tmp 5) ?_); refine wpList_store_new rfl 25 (.tmp 5) (.tmp 21) rfl (nodeCells ta kva) (old := zeroNodeCells) rfl rfl Tryd.sizeNode rfl (nodeCells_one _ _ HOA.out) ?_)
  refine (parse_any b _ HSB.out HTA.out).mono ?_
  rw [HQB.out]
  rintro e w2 ⟨kvb, rfl, hkb, hb2⟩
  have HOB := Lib.hid (KAt.one hkb)
  have HKB := Lib.hid (KAt.alloc hkb (.cells (nodeCells tb kvb).toArray 25))
  have hb2' : Below (w1.alloc (.cells (nodeCells ta kva).toArray 25)).heap.size (w1.alloc (.cells (nodeCells ta kva).toArray 25)) (w2.alloc (.cells (nodeCells tb kvb).toArray 25)) := hb2.alloc hb2.size _
  have HKA2 := Lib.hid (HKA.out.below hb2')
  have HNA2 := Lib.hid (HNA.out.stays hb2')
  have HNB := Lib.hid (Blk.new w2 (nodeCells tb kvb) 25)
  have HBB := Lib.hid (HBA.out.trans (hb2'.mono HBA.out.size))
  have HTB := Lib.hid (HT.out.below HBB.out HT.out.size)
  clear hkb hb2 hb2' HKA HNA HTA HBA
  obtain ⟨W2, hW2⟩ : ∃ W, w2.alloc (.cells (nodeCells tb kvb).toArray 25) = W := ⟨_, rfl⟩
  rw [hW2] at HKB HKA2 HNA2 HNB HBB HTB
  unfold NodeV
  go_wp2_with (first
    | ((with_reducible refine at_st 25 (.tmp 8) ?_); refine wpList_store_new rfl 25 (.tmp 8) (.tmp 27) rfl (nodeCells tb kvb) (old := zeroNodeCells) rfl rfl Tryd.sizeNode rfl (nodeCells_one _ _ HOB.out) ?_)
    | ((with_reducible refine at_ld 25 (.tmp 5) ?_); refine wpList_load_blk rfl 25 (.tmp 5) rfl w1.heap.size (nodeCells ta kva) rfl (by first | exact HNA2.out | (rw [hW2]; exact HNA2.out)) Tryd.underlying25 rfl Tryd.sizeNode ?_)
    | ((with_reducible refine at_ld 25 (.tmp 8) ?_); refine wpList_load_blk rfl 25 (.tmp 8) rfl w2.heap.size (nodeCells tb kvb) rfl (by first | exact HNB.out | (rw [hW2]; exact HNB.out)) Tryd.underlying25 rfl Tryd.sizeNode ?_))
  first | refine calls_at W2 hW2 ?_ | skip
  clear hW2
  refine (link_ok HKA2.out HKB.out ga.out gb.out).mono ?_
  rintro e w4 ⟨v4, rfl, hc4, hb4⟩
  have HKA4 := Lib.hid (HKA2.out.below hb4)
  have HNA4 := Lib.hid (HNA2.out.stays hb4)
  have HKB4 := Lib.hid (HKB.out.below hb4)
  have HNB4 := Lib.hid (HNB.out.stays hb4)
  have HB4 := Lib.hid (HBB.out.trans (hb4.mono HBB.out.size))
  have HZ4 := Lib.hid hb4.size
  clear hb4 HKA2 HNA2 HKB HNB HBB HTB
  obtain ⟨va4, vc4, rfl⟩ := hc4.slice
  have HC4 := Lib.hid hc4
  clear hc4
  rcases linkL_form ta tb with ⟨p, is, er, hr, hcase⟩ | ⟨m, hr, hm⟩
  · have her : (er != 0) = true := by rcases hcase with h | h <;> simp <;> omega
    obtain ⟨n4, hn4⟩ : ∃ n, (linkL ta tb).1.codes.length = n := ⟨_, rfl⟩
    rw [hn4]
    rw [hr]
    have HB5 := Lib.hid (HB4.out.alloc HB4.out.size (.cells [.slice va4 n4 vc4, .int .i64 0, .int .i64 0].toArray 60))
    have HT5 := Lib.hid (HT.out.below HB5.out HT.out.size)
    clear hr hcase hn4
    go_wp2_with ((with_reducible refine at_st 60 (.tmp 11) ?_); refine wpList_store_new rfl 60 (.tmp 11) (.tmp 34) rfl [.slice va4 n4 vc4, .int .i64 0, .int .i64 0] (old := imgCells (.slice none 0 0) 0 0) rfl rfl Tryd.sizeImage rfl (by intro x hx; simp only [List.mem_cons, List.not_mem_nil, or_false] at hx; rcases hx with rfl | rfl | rfl <;> rfl) ?_)
    refine (wakes8_any _ HT5.out).mono ?_
    rintro e w6 ⟨rfl, hb6⟩
    have HB6 := Lib.hid (HB5.out.trans (hb6.mono HB5.out.size))
    have HT6 := Lib.hid (HT.out.below HB6.out HT.out.size)
    clear hb6
    have h3 : (ca = 0 ∧ cb = 0) ∨ (ca = 0 ∧ (cb != 0) = true) ∨ (ca != 0) = true := by
      simp only [bne_iff_ne, ne_eq]
      by_cases h : ca = 0
      · by_cases h' : cb = 0
        · exact .inl ⟨h, h'⟩
        · exact .inr (.inl ⟨h, h'⟩)
      · exact .inr (.inr h)
    rcases h3 with ⟨rfl, rfl⟩ | ⟨rfl, h2⟩ | h2
    all_goals
      go_wp2_with fail
      refine (wakes8_any _ HT6.out).mono ?_
      rintro e w7 ⟨rfl, hb7⟩
      have HB7 := Lib.hid (HB6.out.trans (hb7.mono HB6.out.size))
      clear hb7
      go_wp2_with fail
      go_ret
      exact ⟨rfl, HB7.out⟩
  · have HC5 := Lib.hid (show CodsAt w4 m.codes (fun b => W2.heap.size ≤ b) (.slice va4 m.codes.length vc4) from by have h := HC4.out; rw [hr] at h; exact h)
    rw [hr]
    have HM := Lib.hid hm
    clear hr hm HC4
    obtain ⟨W5, hW5⟩ : ∃ W, w4.alloc (.cells [.slice va4 m.codes.length vc4, .int .i64 m.libs, .int .i64 m.main].toArray 60) = W := ⟨_, rfl⟩
    have HB5 := Lib.hid (show Below w.heap.size w W5 from hW5 ▸ HB4.out.alloc HB4.out.size _)
    have HI5 := Lib.hid (show Blk W5 w4.heap.size [.slice va4 m.codes.length vc4, .int .i64 m.libs, .int .i64 m.main] 60 from hW5 ▸ Blk.new w4 _ _)
    have HNA5 := Lib.hid (show Blk W5 w1.heap.size (nodeCells ta kva) 25 from hW5 ▸ HNA4.out.alloc _)
    have HNB5 := Lib.hid (show Blk W5 w2.heap.size (nodeCells tb kvb) 25 from hW5 ▸ HNB4.out.alloc _)
    have HKA5 := Lib.hid (show KAt 25 W5 ta.kids (fun b => w.heap.size ≤ b) kva from hW5 ▸ HKA4.out.alloc _)
    have HKB5 := Lib.hid (show KAt 25 W5 tb.kids _ kvb from hW5 ▸ HKB4.out.alloc _)
    have HC6 := Lib.hid (show CodsAt W5 m.codes (fun b => W2.heap.size ≤ b) (.slice va4 m.codes.length vc4) from hW5 ▸ HC5.out.below ((Below.refl _ _).alloc (Nat.le_refl _) _))
    have HT5 := Lib.hid (HT.out.below HB5.out HT.out.size)
    go_wp2_with ((with_reducible refine at_st 60 (.tmp 11) ?_); refine wpList_store_new rfl 60 (.tmp 11) (.tmp 34) rfl [.slice va4 m.codes.length vc4, .int .i64 m.libs, .int .i64 m.main] (old := imgCells (.slice none 0 0) 0 0) rfl rfl Tryd.sizeImage rfl (by intro x hx; simp only [List.mem_cons, List.not_mem_nil, or_false] at hx; rcases hx with rfl | rfl | rfl <;> rfl) ?_)
    first | refine calls_at W5 hW5 ?_ | skip
    clear hW5 HC5 HKA4 HKB4 HNA4 HNB4 HB4
    refine (wakes8_any W5 HT5.out).mono ?_
    rintro e w6 ⟨rfl, hb6⟩
    have HB6 := Lib.hid (HB5.out.trans (hb6.mono HB5.out.size))
    have HI6 := Lib.hid (HI5.out.stays hb6)
    have HNA6 := Lib.hid (HNA5.out.stays hb6)
    have HNB6 := Lib.hid (HNB5.out.stays hb6)
    have HKA6 := Lib.hid (HKA5.out.below hb6)
    have HKB6 := Lib.hid (HKB5.out.below hb6)
    have HC7 := Lib.hid (HC6.out.below hb6)
    have HT6 := Lib.hid (HT.out.below HB6.out HT.out.size)
    clear hb6 HI5 HNA5 HNB5 HKA5 HKB5 HC6 HB5 HT5
    by_cases hab : ca = 0 ∧ cb = 0
    · obtain ⟨rfl, rfl⟩ := hab
      have HXS := Lib.hid (show ∀ t ∈ ta.kids ++ tb.kids, t.whole ∧ t.size ≤ 4990 from by
        intro t ht
        have one : ∀ {x : T}, LinkOk x → t ∈ x.kids → t.whole ∧ t.size ≤ 4990 := fun {x} hx h => by
          obtain ⟨q, hq⟩ := List.mem_iff_getElem?.1 h
          have h1 := sizes_mem hq
          have h2 : x.size = 1 + sizes x.kids := by cases x; rw [size_mk]; rfl
          have h3 := hx.s
          exact ⟨wholes_mem (whole_eq.1 hx.w).2 h, by omega⟩
        rcases List.mem_append.1 ht with h | h
        · exact one ga.out h
        · exact one gb.out h)
      obtain ⟨aa, ac, rfl⟩ := HKA6.out.len
      obtain ⟨ab, bc, rfl⟩ := HKB6.out.len
      go_wp2_with fail
      refine wp_region_held_drew (S := fun W => Blk W w1.heap.size [.int .i64 ta.kind, .string ta.text, .int .i64 ta.num, .int .i64 ta.place, .slice aa ta.kids.length ac] 25 ∧ Blk W w2.heap.size [.int .i64 tb.kind, .string tb.text, .int .i64 tb.num, .int .i64 tb.place, .slice ab tb.kids.length bc] 25) (by kernel_rfl) ⟨HNA6.out.drew, HNB6.out.drew⟩ (fun hS => ?_)
      refine wpAnyH_take (i := 0) (oi := ⟨some 53, _, _, _, _, _⟩) (v := .pointer (some ⟨w1.heap.size, 4, none⟩)) rfl (by kernel_rfl) (by kernel_rfl) (by kernel_rfl) (fun _ _ _ h => h) (Or.inl ⟨by rfl, fun W _ => by go_simp⟩) hS ?_
      try simp only [Act.put, List.setIfInBounds_toArray, List.set_cons_zero, List.set_cons_succ]
      refine wpAnyH_take (i := 1) (oi := ⟨some 54, _, _, _, _, _⟩) (v := .slice aa ta.kids.length ac) rfl (by kernel_rfl) (by kernel_rfl) (by kernel_rfl) (fun _ _ _ h => h) (Or.inl ⟨by rfl, fun W hW => by have hcx : W.cell? ⟨w1.heap.size, 4, none⟩ = some (.slice aa ta.kids.length ac) := (hW.1).cell 4; go_simp⟩) hS ?_
      try simp only [Act.put, List.setIfInBounds_toArray, List.set_cons_zero, List.set_cons_succ]
      refine wpAnyH_take (i := 3) (oi := ⟨some 56, _, _, _, _, _⟩) (v := .pointer (some ⟨w2.heap.size, 4, none⟩)) rfl (by kernel_rfl) (by kernel_rfl) (by kernel_rfl) (fun _ _ _ h => h) (Or.inl ⟨by rfl, fun W _ => by go_simp⟩) hS ?_
      try simp only [Act.put, List.setIfInBounds_toArray, List.set_cons_zero, List.set_cons_succ]
      refine wpAnyH_take (i := 4) (oi := ⟨some 57, _, _, _, _, _⟩) (v := .slice ab tb.kids.length bc) rfl (by kernel_rfl) (by kernel_rfl) (by kernel_rfl) (fun _ _ _ h => h) (Or.inl ⟨by rfl, fun W hW => by have hcx : W.cell? ⟨w2.heap.size, 4, none⟩ = some (.slice ab tb.kids.length bc) := (hW.2).cell 4; go_simp⟩) hS ?_
      try simp only [Act.put, List.setIfInBounds_toArray, List.set_cons_zero, List.set_cons_succ]
      refine wpAnyH_take (i := 7) (oi := ⟨some 60, _, _, _, _, _⟩) (v := .int .i64 0) rfl (by kernel_rfl) (by kernel_rfl) (by kernel_rfl) (fun _ _ _ h => h) (Or.inl ⟨by rfl, fun W _ => by go_simp⟩) hS ?_
      try simp only [Act.put, List.setIfInBounds_toArray, List.set_cons_zero, List.set_cons_succ]
      obtain ⟨ni, nz, NI⟩ := Tryd.nodeInfo
      refine AnyH.only (i := 2) (o := ⟨some 55, _, _, _, _, _⟩) (by kernel_rfl) rfl (by rfl) (fun K hK => ?_)
      refine wp_append_kat (ks := []) (ts := ta.kids) (v := .slice none 0 0) (xv := .slice aa ta.kids.length ac) (S := fun b => w.heap.size ≤ b) (Operand.const (Value.slice none 0 0)) (.tmp 54) rfl NI rfl (KAt.nil _ _ _) rfl HKA6.out.drew (fun b hb _ => ⟨hb, by simp [Value.ownBlock]⟩) HB6.out.size (by have := HLA.out; simp; omega) (fun v7 w7 hk7 hg7 hl7 => ?_)
      have hb7 : Below w6.heap.size w6 w7 := ⟨hg7.os, hg7.tape, hg7.output, hg7.size, fun k hk => hg7.block k hk (by simp [Value.ownBlock])⟩
      obtain ⟨va7, vc7, rfl⟩ := hk7.len
      have hS1 : Blk w7 w1.heap.size [.int .i64 ta.kind, .string ta.text, .int .i64 ta.num, .int .i64 ta.place, .slice aa ta.kids.length ac] 25 ∧ Blk w7 w2.heap.size [.int .i64 tb.kind, .string tb.text, .int .i64 tb.num, .int .i64 tb.place, .slice ab tb.kids.length bc] 25 := ⟨HNA6.out.stays hb7, HNB6.out.stays hb7⟩
      have HOW := Lib.hid (show ∀ b, (Value.slice va7 ([] ++ ta.kids).length vc7).ownBlock = some b → w6.heap.size ≤ b from fun b hb => by
        rcases hl7 with h | h
        · rw [h] at hb; simp [Value.ownBlock] at hb
        · rw [h] at hb
          have e : w6.heap.size = b := Option.some.inj hb
          omega)
      have HKB7 := Lib.hid (show KAt 25 w7 tb.kids (fun b => w.heap.size ≤ b ∧ b < w6.heap.size) (.slice ab tb.kids.length bc) from KAt.keep HKB6.out fun b hb hl => ⟨⟨by have := hb; exact Nat.le_trans HBW1.out this, hl⟩, hb7.block b hl⟩)
      have HK7 := Lib.hid hk7
      have HB7 := Lib.hid hb7
      clear hS hk7 hg7 hl7 hb7
      have hS := hS1
      clear hS1
      refine hK.out _ _ hS ?_
      clear hK K
      try simp only [Act.put, List.setIfInBounds_toArray, List.set_cons_zero, List.set_cons_succ]
      refine AnyH.only (i := 5) (o := ⟨some 58, _, _, _, _, _⟩) (by kernel_rfl) rfl (by rfl) (fun K hK => ?_)
      refine wp_append_kat (ks := [] ++ ta.kids) (ts := tb.kids) (v := .slice va7 ([] ++ ta.kids).length vc7) (xv := .slice ab tb.kids.length bc) (S := fun b => w.heap.size ≤ b) (.tmp 55) (.tmp 57) rfl NI rfl HK7.out rfl HKB7.out (fun b hb _ => ⟨hb.1, fun e => by have := HOW.out b e; omega⟩) (Nat.le_trans HB6.out.size HB7.out.size) (by have := HLA.out; have := HLB.out; simp; omega) (fun v8 w8 hk8 hg8 hl8 => ?_)
      have hb8 : Below w6.heap.size w6 w8 := HB7.out.trans ⟨hg8.os, hg8.tape, hg8.output, hg8.size, fun k hk => hg8.block k (Nat.lt_of_lt_of_le hk HB7.out.size) (fun e => by have := HOW.out k e.symm; omega)⟩
      have hS1 : Blk w8 w1.heap.size [.int .i64 ta.kind, .string ta.text, .int .i64 ta.num, .int .i64 ta.place, .slice aa ta.kids.length ac] 25 ∧ Blk w8 w2.heap.size [.int .i64 tb.kind, .string tb.text, .int .i64 tb.num, .int .i64 tb.place, .slice ab tb.kids.length bc] 25 := ⟨HNA6.out.stays hb8, HNB6.out.stays hb8⟩
      have HK8 := Lib.hid (show KAt 25 w8 (ta.kids ++ tb.kids) (fun b => w.heap.size ≤ b) v8 from hk8)
      obtain ⟨va8, vc8, rfl⟩ := HK8.out.len
      have HB8 := Lib.hid (HB6.out.trans (hb8.mono HB6.out.size))
      have HI8 := Lib.hid (HI6.out.stays hb8)
      have HNA8 := Lib.hid hS1.1
      have HC8 := Lib.hid (HC7.out.below hb8)
      clear hS hk8 hg8 hl8 hb8 HK7 HKB7 HB7 HOW HNA6 HNB6 HKA6 HKB6 HI6 HC7
      have hS := hS1
      clear hS1
      refine hK.out _ _ hS ?_
      clear hK K
      try simp only [Act.put, List.setIfInBounds_toArray, List.set_cons_zero, List.set_cons_succ]
      refine wpAnyH_take (i := 6) (oi := ⟨some 59, _, _, _, _, _⟩) (v := .int .i64 ((ta.kids ++ tb.kids).length : Nat)) rfl (by kernel_rfl) (by kernel_rfl) (by kernel_rfl) (fun _ _ _ h => h) (Or.inl ⟨by rfl, fun W _ => by go_simp⟩) hS ?_
      try simp only [Act.put, List.setIfInBounds_toArray, List.set_cons_zero, List.set_cons_succ]
      refine wpAnyH_done (by kernel_rfl) ?_ _
      clear hS
      obtain ⟨xs, hxs⟩ : ∃ xs, xs = ta.kids ++ tb.kids := ⟨_, rfl⟩
      have HXS2 := Lib.hid hxs
      rw [← hxs] at HK8 HXS ⊢
      have HXL := Lib.hid (show xs.length ≤ 9980 from by have := HLA.out; have := HLB.out; rw [hxs, List.length_append]; omega)
      clear hxs
      rcases HK8.out.form with ⟨hv8, hnil⟩ | ⟨g5, cap5, hv8, hg5, hcap5, hcm5, hget5⟩
      · obtain ⟨rfl, _, rfl⟩ : va8 = none ∧ xs.length = 0 ∧ vc8 = 0 := by simpa using hv8
        have hl0 : xs.length = 0 := by rw [hnil]; rfl
        have hE := order_end HM.out
        rw [← HXS2.out, hnil] at hE
        have hml : m.codes.length = 0 := by rw [← hE]; rfl
        have i0 : w8.cell? ⟨w4.heap.size, 0, none⟩ = some (.slice va4 m.codes.length vc4) := HI8.out.cell 0
        clear hE hnil hv8
        go_wp2_with fail
        refine wp_loop_rounds 1 ?_
        rw [rounds_succ]
        go_wp2_with fail
        go_ret
        exact ⟨rfl, HB8.out⟩
      · obtain ⟨rfl, _, rfl⟩ : va8 = some ⟨g5, 0, none⟩ ∧ True ∧ vc8 = cap5 := by simpa using hv8
        have HGET := Lib.hid hget5
        have HCAP := Lib.hid hcap5
        unfold maxLen at hcm5
        clear hv8 hget5 hcap5
        go_wp2_with fail
        go_loopg [15, 60] xs.length (fun gk n i wr => ∃ k : Nat, k ≤ xs.length ∧ xs.length ≤ k + gk ∧ n = .int .i64 ((fnsL (xs.take k)).length : Nat) ∧ i = .int .i64 k ∧ Below w8.heap.size w8 wr)
        case atStart => exact ⟨0, by omega, by omega, by simp [fnsL], rfl, Below.refl _ _⟩
        case round =>
          obtain ⟨k, hk, hgk, rfl, rfl, hbel⟩ := hrel
          have HBR := Lib.hid hbel
          have hzw := hbel.size
          have hfl : (fnsL (xs.take k)).length ≤ 9980 := by have h1 := List.length_filter_le (fun t : T => t.kind == 6) (xs.take k); have h2 := HXL.out; unfold fnsL; simp at h1; omega
          clear hbel
          by_cases hlt : k < xs.length
          · obtain ⟨u, hr, hT⟩ := HGET.out k xs[k] (List.getElem?_eq_getElem hlt)
            have hne := List.getElem?_eq_getElem hlt
            have HTX := Lib.hid (HXS.out xs[k] (List.getElem_mem hlt))
            generalize xs[k] = tk at hr hT hne HTX
            have HR := Lib.hid (rangeAt_below hr HBR.out hg5)
            have HTK := Lib.hid (hT.below HBR.out)
            have HSTEP := Lib.hid (fns_step hne)
            have HNE := Lib.hid (show (ta.kids ++ tb.kids)[k]? = some tk from by rw [← HXS2.out]; exact hne)
            have hcap := HCAP.out
            have hxl := HXL.out
            clear hr hT hne
            by_cases h6 : tk.kind = 6
            · obtain ⟨ho1, ho2⟩ := order_at HM.out HNE.out h6
              rw [← HXS2.out] at ho1 ho2
              rw [if_pos h6] at HSTEP
              have hnm : (lowerI tk).name = tk.text := lowerI_name h6
              obtain ⟨kk, kt, kn, kp, kks⟩ := tk
              obtain rfl : kk = 6 := h6
              have hnm2 : (lowerI (T.mk 6 kt kn kp kks)).name = kt := hnm
              obtain ⟨fk, hfk⟩ : ∃ fk, (fnsL (xs.take k)).length = fk := ⟨_, rfl⟩
              rw [hfk] at ho1 ho2 hfl HSTEP ⊢
              have hfm := (List.getElem?_eq_some_iff.1 ho1).1
              have hfm1 : (fk : Int) < (m.codes.length : Int) := by omega
              have hfm0 : (0 : Int) ≤ (fk : Int) := by omega
              have hfm2 : ¬ (m.codes.length : Int) ≤ (fk : Int) := by omega
              have HO2 := Lib.hid ho2
              rcases HC8.out.form with ⟨_, hnil⟩ | ⟨g, cap, hv, hg, hcapc, hcmc, hgetc⟩
              · rw [hnil] at hfm; simp at hfm
              · obtain ⟨rfl, _, rfl⟩ : va4 = some ⟨g, 0, none⟩ ∧ True ∧ vc4 = cap := by simpa using hv
                obtain ⟨pvc, lvc, hrc, hcac⟩ := hgetc fk _ ho1
                obtain ⟨pa, pc, rfl⟩ := hcac.1.slice
                obtain ⟨la, lc, rfl⟩ := hcac.2.slice
                unfold maxLen at hcmc
                clear hgetc hv hnm hcac
                generalize hcd : lowerI (T.mk 6 kt kn kp kks) = cd at *
                have HRC := Lib.hid (show wr.rangeAt g (fk * 3) [.string kt, .slice pa cd.params.length pc, .slice la cd.list.length lc] from by
                  have h := rangeAt_below hrc HBR.out hg.2
                  unfold codCells at h
                  rwa [hnm2] at h)
                obtain ⟨W, hW⟩ : ∃ W, wr.alloc (.cells [.int .i64 6, .string kt, .int .i64 kn, .int .i64 kp, u].toArray 25) = W := ⟨_, rfl⟩
                have hbw : Below wr.heap.size wr W := hW ▸ (Below.refl _ _).alloc (Nat.le_refl _) _
                have HBW := Lib.hid (HBR.out.trans (hbw.mono HBR.out.size))
                have HBLK := Lib.hid (show Blk W wr.heap.size [.int .i64 6, .string kt, .int .i64 kn, .int .i64 kp, u] 25 from hW ▸ Blk.new wr [.int .i64 6, .string kt, .int .i64 kn, .int .i64 kp, u] 25)
                have HKW := Lib.hid (show KAt 25 W kks (fun b => w.heap.size ≤ b) u from KAt.below HTK.out.kat hbw)
                have n0 : W.cell? ⟨wr.heap.size, 0, none⟩ = some (.int .i64 6) := HBLK.out.cell 0
                have HRW := Lib.hid (rangeAt_below HRC.out hbw (Nat.lt_of_lt_of_le hg.2 HBR.out.size))
                clear hbw hrc ho1 ho2
                go_wp2_with (first
                  | ((with_reducible refine at_ld 25 (.tmp 63) ?_); refine wpList_load_mid rfl 25 (.tmp 63) rfl g5 (k * 5) rfl [.int .i64 6, .string kt, .int .i64 kn, .int .i64 kp, u] _ HR.out Tryd.underlying25 rfl Tryd.sizeNode ?_)
                  | ((with_reducible refine at_st 25 (.tmp 17) ?_); refine wpList_store_new rfl 25 (.tmp 17) (.tmp 64) rfl [.int .i64 6, .string kt, .int .i64 kn, .int .i64 kp, u] (old := zeroNodeCells) rfl rfl Tryd.sizeNode rfl (nodeCells_one (T.mk 6 kt kn kp kks) _ HTK.out.kat.one) ?_))
                clear hW n0
                refine wp_region_held_drew (S := fun W => (Blk W w4.heap.size [.slice (some ⟨g, 0, none⟩) m.codes.length vc4, .int .i64 m.libs, .int .i64 m.main] 60 ∧ Blk W wr.heap.size [.int .i64 6, .string kt, .int .i64 kn, .int .i64 kp, u] 25) ∧ (Blk W w1.heap.size [.int .i64 ta.kind, .string ta.text, .int .i64 ta.num, .int .i64 ta.place, .slice aa ta.kids.length ac] 25 ∧ W.rangeAt g (fk * 3) [.string kt, .slice pa cd.params.length pc, .slice la cd.list.length lc])) (by kernel_rfl) ⟨⟨(HI8.out.stays HBW.out).drew, HBLK.out.drew⟩, ⟨(HNA8.out.stays HBW.out).drew, fun j v hj => HRW.out j v hj⟩⟩ (fun hS => ?_)
                refine wpAnyH_take (i := 0) (oi := ⟨some 68, _, _, _, _, _⟩) (v := .int .i64 (fk : Int)) rfl (by kernel_rfl) (by kernel_rfl) (by kernel_rfl) (fun _ _ _ h => h) (Or.inl ⟨by rfl, fun W _ => by go_simp⟩) hS ?_
                try simp only [Act.put, List.setIfInBounds_toArray, List.set_cons_zero, List.set_cons_succ]
                refine wpAnyH_take (i := 1) (oi := ⟨some 69, _, _, _, _, _⟩) (v := .pointer (some ⟨w4.heap.size, 0, none⟩)) rfl (by kernel_rfl) (by kernel_rfl) (by kernel_rfl) (fun _ _ _ h => h) (Or.inl ⟨by rfl, fun W _ => by go_simp⟩) hS ?_
                try simp only [Act.put, List.setIfInBounds_toArray, List.set_cons_zero, List.set_cons_succ]
                refine wpAnyH_take (i := 2) (oi := ⟨some 70, _, _, _, _, _⟩) (v := .slice (some ⟨g, 0, none⟩) m.codes.length vc4) rfl (by kernel_rfl) (by kernel_rfl) (by kernel_rfl) (fun _ _ _ h => h) (Or.inl ⟨by rfl, fun W hW => by have hcx : W.cell? ⟨w4.heap.size, 0, none⟩ = some (.slice (some ⟨g, 0, none⟩) m.codes.length vc4) := (hW.1.1).cell 0; go_simp⟩) hS ?_
                try simp only [Act.put, List.setIfInBounds_toArray, List.set_cons_zero, List.set_cons_succ]
                refine wpAnyH_take (i := 3) (oi := ⟨some 71, _, _, _, _, _⟩) (v := .int .i64 (m.codes.length : Int)) rfl (by kernel_rfl) (by kernel_rfl) (by kernel_rfl) (fun _ _ _ h => h) (Or.inl ⟨by rfl, fun W _ => by go_simp⟩) hS ?_
                try simp only [Act.put, List.setIfInBounds_toArray, List.set_cons_zero, List.set_cons_succ]
                refine wpAnyH_take (i := 4) (oi := ⟨some 72, _, _, _, _, _⟩) (v := .bool false) rfl (by kernel_rfl) (by kernel_rfl) (by kernel_rfl) (fun _ _ _ h => h) (Or.inl ⟨by rfl, fun W _ => by go_simp⟩) hS ?_
                try simp only [Act.put, List.setIfInBounds_toArray, List.set_cons_zero, List.set_cons_succ]
                refine wpAnyH_take (i := 5) (oi := ⟨some 73, _, _, _, _, _⟩) (v := .bool false) rfl (by kernel_rfl) (by kernel_rfl) (by kernel_rfl) (fun _ _ _ h => h) (Or.inl ⟨by rfl, fun W _ => by go_simp⟩) hS ?_
                try simp only [Act.put, List.setIfInBounds_toArray, List.set_cons_zero, List.set_cons_succ]
                refine wpAnyH_take (i := 6) (oi := ⟨some 74, _, _, _, _, _⟩) (v := .pointer (some ⟨w4.heap.size, 0, none⟩)) rfl (by kernel_rfl) (by kernel_rfl) (by kernel_rfl) (fun _ _ _ h => h) (Or.inl ⟨by rfl, fun W _ => by go_simp⟩) hS ?_
                try simp only [Act.put, List.setIfInBounds_toArray, List.set_cons_zero, List.set_cons_succ]
                refine wpAnyH_take (i := 7) (oi := ⟨some 75, _, _, _, _, _⟩) (v := .slice (some ⟨g, 0, none⟩) m.codes.length vc4) rfl (by kernel_rfl) (by kernel_rfl) (by kernel_rfl) (fun _ _ _ h => h) (Or.inl ⟨by rfl, fun W hW => by have hcx : W.cell? ⟨w4.heap.size, 0, none⟩ = some (.slice (some ⟨g, 0, none⟩) m.codes.length vc4) := (hW.1.1).cell 0; go_simp⟩) hS ?_
                try simp only [Act.put, List.setIfInBounds_toArray, List.set_cons_zero, List.set_cons_succ]
                refine wpAnyH_take (i := 8) (oi := ⟨some 76, _, _, _, _, _⟩) (v := .int .i64 (fk : Int)) rfl (by kernel_rfl) (by kernel_rfl) (by kernel_rfl) (fun _ _ _ h => h) (Or.inl ⟨by rfl, fun W _ => by go_simp⟩) hS ?_
                try simp only [Act.put, List.setIfInBounds_toArray, List.set_cons_zero, List.set_cons_succ]
                refine wpAnyH_take (i := 9) (oi := ⟨some 77, _, _, _, _, _⟩) (v := .pointer (some ⟨g, fk * 3, none⟩)) rfl (by kernel_rfl) (by kernel_rfl) (by kernel_rfl) (fun _ _ _ h => h) (Or.inl ⟨by rfl, fun W _ => by go_simp⟩) hS ?_
                try simp only [Act.put, List.setIfInBounds_toArray, List.set_cons_zero, List.set_cons_succ]
                refine wpAnyH_take (i := 10) (oi := ⟨some 78, _, _, _, _, _⟩) (v := .pointer (some ⟨g, fk * 3, none⟩)) rfl (by kernel_rfl) (by kernel_rfl) (by kernel_rfl) (fun _ _ _ h => h) (Or.inl ⟨by rfl, fun W _ => by go_simp⟩) hS ?_
                try simp only [Act.put, List.setIfInBounds_toArray, List.set_cons_zero, List.set_cons_succ]
                refine wpAnyH_take (i := 11) (oi := ⟨some 79, _, _, _, _, _⟩) (v := .string kt) rfl (by kernel_rfl) (by kernel_rfl) (by kernel_rfl) (fun _ _ _ h => h) (Or.inl ⟨by rfl, fun W hW => by have hcx : W.cell? ⟨g, fk * 3, none⟩ = some (.string kt) := (hW.2.2) 0 _ rfl; go_simp⟩) hS ?_
                try simp only [Act.put, List.setIfInBounds_toArray, List.set_cons_zero, List.set_cons_succ]
                refine wpAnyH_take (i := 12) (oi := ⟨some 80, _, _, _, _, _⟩) (v := .pointer (some ⟨wr.heap.size, 1, none⟩)) rfl (by kernel_rfl) (by kernel_rfl) (by kernel_rfl) (fun _ _ _ h => h) (Or.inl ⟨by rfl, fun W _ => by go_simp⟩) hS ?_
                try simp only [Act.put, List.setIfInBounds_toArray, List.set_cons_zero, List.set_cons_succ]
                refine wpAnyH_take (i := 13) (oi := ⟨some 81, _, _, _, _, _⟩) (v := .string kt) rfl (by kernel_rfl) (by kernel_rfl) (by kernel_rfl) (fun _ _ _ h => h) (Or.inl ⟨by rfl, fun W hW => by have hcx : W.cell? ⟨wr.heap.size, 1, none⟩ = some (.string kt) := (hW.1.2).cell 1; go_simp⟩) hS ?_
                try simp only [Act.put, List.setIfInBounds_toArray, List.set_cons_zero, List.set_cons_succ]
                refine wpAnyH_take (i := 14) (oi := ⟨some 82, _, _, _, _, _⟩) (v := .bool false) rfl (by kernel_rfl) (by kernel_rfl) (by kernel_rfl) (fun _ _ _ h => h) (Or.inl ⟨by rfl, fun W _ => by go_simp⟩) hS ?_
                try simp only [Act.put, List.setIfInBounds_toArray, List.set_cons_zero, List.set_cons_succ]
                refine wpAnyH_take (i := 15) (oi := ⟨some 83, _, _, _, _, _⟩) (v := .bool false) rfl (by kernel_rfl) (by kernel_rfl) (by kernel_rfl) (fun _ _ _ h => h) (Or.inl ⟨by rfl, fun W _ => by go_simp⟩) hS ?_
                try simp only [Act.put, List.setIfInBounds_toArray, List.set_cons_zero, List.set_cons_succ]
                refine wpAnyH_take (i := 16) (oi := ⟨some 84, _, _, _, _, _⟩) (v := .bool false) rfl (by kernel_rfl) (by kernel_rfl) (by kernel_rfl) (fun _ _ _ h => h) (Or.inl ⟨by rfl, fun W _ => by go_simp⟩) hS ?_
                try simp only [Act.put, List.setIfInBounds_toArray, List.set_cons_zero, List.set_cons_succ]
                refine wpAnyH_take (i := 17) (oi := ⟨some 85, _, _, _, _, _⟩) (v := .pointer (some ⟨w4.heap.size, 0, none⟩)) rfl (by kernel_rfl) (by kernel_rfl) (by kernel_rfl) (fun _ _ _ h => h) (Or.inl ⟨by rfl, fun W _ => by go_simp⟩) hS ?_
                try simp only [Act.put, List.setIfInBounds_toArray, List.set_cons_zero, List.set_cons_succ]
                refine wpAnyH_take (i := 18) (oi := ⟨some 86, _, _, _, _, _⟩) (v := .slice (some ⟨g, 0, none⟩) m.codes.length vc4) rfl (by kernel_rfl) (by kernel_rfl) (by kernel_rfl) (fun _ _ _ h => h) (Or.inl ⟨by rfl, fun W hW => by have hcx : W.cell? ⟨w4.heap.size, 0, none⟩ = some (.slice (some ⟨g, 0, none⟩) m.codes.length vc4) := (hW.1.1).cell 0; go_simp⟩) hS ?_
                try simp only [Act.put, List.setIfInBounds_toArray, List.set_cons_zero, List.set_cons_succ]
                refine wpAnyH_take (i := 19) (oi := ⟨some 87, _, _, _, _, _⟩) (v := .int .i64 (fk : Int)) rfl (by kernel_rfl) (by kernel_rfl) (by kernel_rfl) (fun _ _ _ h => h) (Or.inl ⟨by rfl, fun W _ => by go_simp⟩) hS ?_
                try simp only [Act.put, List.setIfInBounds_toArray, List.set_cons_zero, List.set_cons_succ]
                refine wpAnyH_take (i := 20) (oi := ⟨some 88, _, _, _, _, _⟩) (v := .pointer (some ⟨g, fk * 3, none⟩)) rfl (by kernel_rfl) (by kernel_rfl) (by kernel_rfl) (fun _ _ _ h => h) (Or.inl ⟨by rfl, fun W _ => by go_simp⟩) hS ?_
                try simp only [Act.put, List.setIfInBounds_toArray, List.set_cons_zero, List.set_cons_succ]
                refine wpAnyH_take (i := 21) (oi := ⟨some 89, _, _, _, _, _⟩) (v := .pointer (some ⟨g, fk * 3 + 2, none⟩)) rfl (by kernel_rfl) (by kernel_rfl) (by kernel_rfl) (fun _ _ _ h => h) (Or.inl ⟨by rfl, fun W _ => by go_simp⟩) hS ?_
                try simp only [Act.put, List.setIfInBounds_toArray, List.set_cons_zero, List.set_cons_succ]
                refine wpAnyH_take (i := 22) (oi := ⟨some 90, _, _, _, _, _⟩) (v := .slice la cd.list.length lc) rfl (by kernel_rfl) (by kernel_rfl) (by kernel_rfl) (fun _ _ _ h => h) (Or.inl ⟨by rfl, fun W hW => by have hcx : W.cell? ⟨g, fk * 3 + 2, none⟩ = some (.slice la cd.list.length lc) := (hW.2.2) 2 _ rfl; go_simp⟩) hS ?_
                try simp only [Act.put, List.setIfInBounds_toArray, List.set_cons_zero, List.set_cons_succ]
                refine wpAnyH_take (i := 23) (oi := ⟨some 91, _, _, _, _, _⟩) (v := .int .i64 (cd.list.length : Int)) rfl (by kernel_rfl) (by kernel_rfl) (by kernel_rfl) (fun _ _ _ h => h) (Or.inl ⟨by rfl, fun W _ => by go_simp⟩) hS ?_
                try simp only [Act.put, List.setIfInBounds_toArray, List.set_cons_zero, List.set_cons_succ]
                refine wpAnyH_take (i := 24) (oi := ⟨some 92, _, _, _, _, _⟩) (v := .agg #[.int .i64 6, .string kt, .int .i64 kn, .int .i64 kp, u]) rfl (by kernel_rfl) (by kernel_rfl) (by kernel_rfl) (fun _ _ _ h => h) (yieldsIf_load_mid (cs := [.int .i64 6, .string kt, .int .i64 kn, .int .i64 kp, u]) (by rfl) 25 (.tmp 17) rfl (wr.heap.size) 0 (by go_simp) _ (fun W hW j v hj => by rw [Nat.zero_add, (hW.1.2).cell j]; exact hj) Tryd.underlying25 rfl Tryd.sizeNode) hS ?_
                try simp only [Act.put, List.setIfInBounds_toArray, List.set_cons_zero, List.set_cons_succ]
                refine AnyH.only (i := 25) (o := ⟨some 93, _, _, _, _, _⟩) (by kernel_rfl) rfl (by rfl) (fun K hK => ?_)
                go_simp
                refine (lower_any (t := T.mk 6 kt kn kp kks) HKW.out.drew HTX.out.1 HTX.out.2).mono ?_
                rw [hcd]
                rintro e x1 ⟨pv2, lv2, rfl, hca2, hb3⟩
                obtain ⟨la2, lc2, rfl⟩ := hca2.2.slice
                have HB3 := Lib.hid (HBW.out.drew.trans (hb3.mono HBW.out.drew.size))
                have hS1 : (Blk x1 w4.heap.size [.slice (some ⟨g, 0, none⟩) m.codes.length vc4, .int .i64 m.libs, .int .i64 m.main] 60 ∧ Blk x1 wr.heap.size [.int .i64 6, .string kt, .int .i64 kn, .int .i64 kp, u] 25) ∧ (Blk x1 w1.heap.size [.int .i64 ta.kind, .string ta.text, .int .i64 ta.num, .int .i64 ta.place, .slice aa ta.kids.length ac] 25 ∧ x1.rangeAt g (fk * 3) [.string kt, .slice pa cd.params.length pc, .slice la cd.list.length lc]) := ⟨⟨hS.1.1.stays hb3, hS.1.2.stays hb3⟩, ⟨hS.2.1.stays hb3, rangeAt_below hS.2.2 hb3 (Nat.lt_of_lt_of_le hg.2 HBW.out.size)⟩⟩
                clear hca2 hb3 hS
                have hS := hS1
                clear hS1
                unfold CodV
                refine hK.out _ _ hS ?_
                clear hK K
                try simp only [Act.put, List.setIfInBounds_toArray, List.set_cons_zero, List.set_cons_succ]
                obtain ⟨q, hq1, hq2⟩ : ∃ q, decide (fk < m.libs) = q ∧ decide (k < ta.kids.length) = q := ⟨_, HO2.out, rfl⟩
                refine wpAnyH_take (i := 26) (oi := ⟨some 94, _, _, _, _, _⟩) (v := .slice la2 cd.list.length lc2) rfl (by kernel_rfl) (by kernel_rfl) (by kernel_rfl) (fun _ _ _ h => h) (Or.inl ⟨by rfl, fun W _ => by have hf2 := fldCod2; go_simp⟩) hS ?_
                try simp only [Act.put, List.setIfInBounds_toArray, List.set_cons_zero, List.set_cons_succ]
                refine wpAnyH_take (i := 27) (oi := ⟨some 95, _, _, _, _, _⟩) (v := .int .i64 (cd.list.length : Int)) rfl (by kernel_rfl) (by kernel_rfl) (by kernel_rfl) (fun _ _ _ h => h) (Or.inl ⟨by rfl, fun W _ => by go_simp⟩) hS ?_
                try simp only [Act.put, List.setIfInBounds_toArray, List.set_cons_zero, List.set_cons_succ]
                refine wpAnyH_take (i := 28) (oi := ⟨some 96, _, _, _, _, _⟩) (v := .bool false) rfl (by kernel_rfl) (by kernel_rfl) (by kernel_rfl) (fun _ _ _ h => h) (Or.inl ⟨by rfl, fun W _ => by go_simp⟩) hS ?_
                try simp only [Act.put, List.setIfInBounds_toArray, List.set_cons_zero, List.set_cons_succ]
                refine wpAnyH_take (i := 29) (oi := ⟨some 97, _, _, _, _, _⟩) (v := .bool false) rfl (by kernel_rfl) (by kernel_rfl) (by kernel_rfl) (fun _ _ _ h => h) (Or.inl ⟨by rfl, fun W _ => by go_simp⟩) hS ?_
                try simp only [Act.put, List.setIfInBounds_toArray, List.set_cons_zero, List.set_cons_succ]
                refine wpAnyH_take (i := 30) (oi := ⟨some 98, _, _, _, _, _⟩) (v := .bool false) rfl (by kernel_rfl) (by kernel_rfl) (by kernel_rfl) (fun _ _ _ h => h) (Or.inl ⟨by rfl, fun W _ => by go_simp⟩) hS ?_
                try simp only [Act.put, List.setIfInBounds_toArray, List.set_cons_zero, List.set_cons_succ]
                refine wpAnyH_take (i := 31) (oi := ⟨some 99, _, _, _, _, _⟩) (v := .int .i64 (fk : Int)) rfl (by kernel_rfl) (by kernel_rfl) (by kernel_rfl) (fun _ _ _ h => h) (Or.inl ⟨by rfl, fun W _ => by go_simp⟩) hS ?_
                try simp only [Act.put, List.setIfInBounds_toArray, List.set_cons_zero, List.set_cons_succ]
                refine wpAnyH_take (i := 32) (oi := ⟨some 100, _, _, _, _, _⟩) (v := .pointer (some ⟨w4.heap.size, 1, none⟩)) rfl (by kernel_rfl) (by kernel_rfl) (by kernel_rfl) (fun _ _ _ h => h) (Or.inl ⟨by rfl, fun W _ => by go_simp⟩) hS ?_
                try simp only [Act.put, List.setIfInBounds_toArray, List.set_cons_zero, List.set_cons_succ]
                refine wpAnyH_take (i := 33) (oi := ⟨some 101, _, _, _, _, _⟩) (v := .int .i64 m.libs) rfl (by kernel_rfl) (by kernel_rfl) (by kernel_rfl) (fun _ _ _ h => h) (Or.inl ⟨by rfl, fun W hW => by have hcx : W.cell? ⟨w4.heap.size, 1, none⟩ = some (.int .i64 m.libs) := (hW.1.1).cell 1; go_simp⟩) hS ?_
                try simp only [Act.put, List.setIfInBounds_toArray, List.set_cons_zero, List.set_cons_succ]
                refine wpAnyH_take (i := 34) (oi := ⟨some 102, _, _, _, _, _⟩) (v := .bool q) rfl (by kernel_rfl) (by kernel_rfl) (by kernel_rfl) (fun _ _ _ h => h) (Or.inl ⟨by rfl, fun W _ => by go_simp⟩) hS ?_
                try simp only [Act.put, List.setIfInBounds_toArray, List.set_cons_zero, List.set_cons_succ]
                refine wpAnyH_take (i := 35) (oi := ⟨some 103, _, _, _, _, _⟩) (v := .int .i64 (k : Int)) rfl (by kernel_rfl) (by kernel_rfl) (by kernel_rfl) (fun _ _ _ h => h) (Or.inl ⟨by rfl, fun W _ => by go_simp⟩) hS ?_
                try simp only [Act.put, List.setIfInBounds_toArray, List.set_cons_zero, List.set_cons_succ]
                refine wpAnyH_take (i := 36) (oi := ⟨some 104, _, _, _, _, _⟩) (v := .pointer (some ⟨w1.heap.size, 4, none⟩)) rfl (by kernel_rfl) (by kernel_rfl) (by kernel_rfl) (fun _ _ _ h => h) (Or.inl ⟨by rfl, fun W _ => by go_simp⟩) hS ?_
                try simp only [Act.put, List.setIfInBounds_toArray, List.set_cons_zero, List.set_cons_succ]
                refine wpAnyH_take (i := 37) (oi := ⟨some 105, _, _, _, _, _⟩) (v := .slice aa ta.kids.length ac) rfl (by kernel_rfl) (by kernel_rfl) (by kernel_rfl) (fun _ _ _ h => h) (Or.inl ⟨by rfl, fun W hW => by have hcx : W.cell? ⟨w1.heap.size, 4, none⟩ = some (.slice aa ta.kids.length ac) := (hW.2.1).cell 4; go_simp⟩) hS ?_
                try simp only [Act.put, List.setIfInBounds_toArray, List.set_cons_zero, List.set_cons_succ]
                refine wpAnyH_take (i := 38) (oi := ⟨some 106, _, _, _, _, _⟩) (v := .int .i64 (ta.kids.length : Int)) rfl (by kernel_rfl) (by kernel_rfl) (by kernel_rfl) (fun _ _ _ h => h) (Or.inl ⟨by rfl, fun W _ => by go_simp⟩) hS ?_
                try simp only [Act.put, List.setIfInBounds_toArray, List.set_cons_zero, List.set_cons_succ]
                refine wpAnyH_take (i := 39) (oi := ⟨some 107, _, _, _, _, _⟩) (v := .bool q) rfl (by kernel_rfl) (by kernel_rfl) (by kernel_rfl) (fun _ _ _ h => h) (Or.inl ⟨by rfl, fun W _ => by go_simp⟩) hS ?_
                try simp only [Act.put, List.setIfInBounds_toArray, List.set_cons_zero, List.set_cons_succ]
                refine wpAnyH_take (i := 40) (oi := ⟨some 108, _, _, _, _, _⟩) (v := .bool false) rfl (by kernel_rfl) (by kernel_rfl) (by kernel_rfl) (fun _ _ _ h => h) (Or.inl ⟨by rfl, fun W _ => by go_simp⟩) hS ?_
                try simp only [Act.put, List.setIfInBounds_toArray, List.set_cons_zero, List.set_cons_succ]
                refine wpAnyH_take (i := 41) (oi := ⟨some 109, _, _, _, _, _⟩) (v := .bool false) rfl (by kernel_rfl) (by kernel_rfl) (by kernel_rfl) (fun _ _ _ h => h) (Or.inl ⟨by rfl, fun W _ => by go_simp⟩) hS ?_
                try simp only [Act.put, List.setIfInBounds_toArray, List.set_cons_zero, List.set_cons_succ]
                refine wpAnyH_done (by kernel_rfl) ?_ _
                clear hS hq1 hq2
                go_wp2_with fail
                go_roundg (gk - 1)
                case measure => omega
                case rel => exact ⟨k + 1, by omega, by omega, by rw [HSTEP.out]; go_num, by go_num, HB3.out⟩
            · have h6n : (tk.kind != 6) = true := by simpa using h6
              rw [if_neg h6] at HSTEP
              obtain ⟨kk, kt, kn, kp, kks⟩ := tk
              have h6k : (kk != 6) = true := h6n
              have HB2 := Lib.hid (HBR.out.alloc hzw (.cells [.int .i64 kk, .string kt, .int .i64 kn, .int .i64 kp, u].toArray 25))
              go_wp2_with (first
                | ((with_reducible refine at_ld 25 (.tmp 63) ?_); refine wpList_load_mid rfl 25 (.tmp 63) rfl g5 (k * 5) rfl [.int .i64 kk, .string kt, .int .i64 kn, .int .i64 kp, u] _ HR.out Tryd.underlying25 rfl Tryd.sizeNode ?_)
                | ((with_reducible refine at_st 25 (.tmp 17) ?_); refine wpList_store_new rfl 25 (.tmp 17) (.tmp 64) rfl [.int .i64 kk, .string kt, .int .i64 kn, .int .i64 kp, u] (old := zeroNodeCells) rfl rfl Tryd.sizeNode rfl (nodeCells_one (T.mk kk kt kn kp kks) _ HTK.out.kat.one) ?_))
              go_roundg (gk - 1)
              case measure => omega
              case rel => exact ⟨k + 1, by omega, by omega, by rw [HSTEP.out]; rfl, by go_num, HB2.out⟩
          · have hE := order_end HM.out
            rw [← HXS2.out] at hE
            have hE2 : xs.take k = xs := List.take_of_length_le (by omega)
            rw [hE2, hE]
            have i0 : wr.cell? ⟨w4.heap.size, 0, none⟩ = some (.slice va4 m.codes.length vc4) := (HI8.out.stays HBR.out).cell 0
            have HB9 := Lib.hid (HB8.out.trans (HBR.out.mono HB8.out.size))
            clear hE hE2
            go_wp2_with fail
            go_ret
            exact ⟨rfl, HB9.out⟩
    · have herr : (ca = 0 ∧ (cb != 0) = true) ∨ (ca != 0) = true := by
        simp only [bne_iff_ne, ne_eq]
        by_cases h : ca = 0
        · exact .inl ⟨h, fun h' => hab ⟨h, h'⟩⟩
        · exact .inr h
      rcases herr with ⟨rfl, h2⟩ | h2
      all_goals
        go_wp2_with fail
        refine (wakes8_any _ HT6.out).mono ?_
        rintro e w7 ⟨rfl, hb7⟩
        have HB7 := Lib.hid (HB6.out.trans (hb7.mono HB6.out.size))
        clear hb7
        go_wp2_with fail
        go_ret
        exact ⟨rfl, HB7.out⟩

theorem linkOrder_reads (os : Os) {H : Type} (enc : TypeId × Value → H) : ∃ places, DataW.whole enc Tryd.prog ((laidWorld os).forCall (fun _ _ => 0) ⟨#[], #[.string ⟨#[]⟩, .string ⟨#[]⟩], []⟩).memory Tryd.f12.params.toList Rows.linkOrderSpec.vars false #[Value.string ⟨#[]⟩, Value.string ⟨#[]⟩].toList 8 = some ([.lit (.string []), .lit (.string [])], [], places) :=
  ⟨[], by kernel_rfl⟩

set_option maxRecDepth 100000 in
theorem linkOrder_lifted (os : Os) (started : os.Started) (H : Type) (enc : TypeId × Value → H) (F : Stop.Interp) :
    ReturnsInHanded {} Tryd.checked os 12 .any ((OpenSpec.ofChange Rows.linkOrderSpec).preRow enc Tryd.prog Tryd.f12 Rows.linkOrderRow.domain false Rows.linkOrderRow.laid) (((OpenSpec.ofChange Rows.linkOrderSpec).at F).post enc Tryd.prog Tryd.f12 false true false false) := by
  obtain ⟨places, hx⟩ := linkOrder_reads os enc
  refine returnsInHanded_of_row (C := Tryd.checked) (s := OpenSpec.ofChange Rows.linkOrderSpec) own started (by kernel_rfl) Tryd.func12
    (witness_row_at (enc := enc) (C := Tryd.checked) false (laidWorld os) #[.string ⟨#[]⟩, .string ⟨#[]⟩] rfl (by kernel_rfl) (by kernel_rfl) (by kernel_rfl)
      (OpenSpec.preRow_of_cond 8 hx (by kernel_rfl) (fun k hk => by cases hk) (by kernel_rfl) (laid_met_texts os))) ?_
  intro W base args ds gs before hval hW _ _ hreach hL _ _
  exact texts_contract Tryd.params12 (by kernel_rfl) rfl (fun _ _ => rfl) linkOrder_walk W base args ds gs before hval hW hreach hL

theorem linkOrder_said : Rows.LinkOrderSaid :=
  OpenClaim.holds_of_cond 12 Tryd.f12 rfl rfl rfl rfl rfl rfl rfl ⟨rfl, rfl, rfl, rfl, rfl⟩ rfl rfl rfl rfl rfl (by kernel_rfl) Tryd.func12 (by kernel_rfl)
    (of_decide_eq_true (by kernel_rfl)) (by unfold Func.isWrapper; first | (rw [if_pos (by decide +kernel)]; kernel_rfl) | (rw [if_neg (by decide +kernel)]; exact ⟨rfl, rfl⟩))
    (fun os started H enc _ F => by rw [OpenClaim.pre_eq_preRow]; exact linkOrder_lifted os started H enc F)

theorem linkOrder_plain (f : FuncId) (fn : Func) (hf : Tryd.pinned.checked.prog.funcNamed "lychgate/lychgatelaw08.LinkOrder" = some f) (hfn : Tryd.pinned.checked.prog.funcs[f]? = some fn) :
    true = Tryd.pinned.checked.prog.looks [] ∧ ∀ (j : Nat) t, fn.params[j]? = some t → Tryd.pinned.checked.prog.wantsStandIn t = false := by
  obtain rfl : f = 12 := Option.some.inj ((show Tryd.prog.funcNamed "lychgate/lychgatelaw08.LinkOrder" = some 12 by kernel_rfl).symm.trans hf) |>.symm
  obtain rfl : fn = Tryd.f12 := (Option.some.inj (Tryd.func12.symm.trans hfn)).symm
  refine ⟨by kernel_rfl, fun j t ht => ?_⟩
  rw [Tryd.params12] at ht
  obtain rfl : t = 9 := by simpa using Array.mem_of_getElem? ht
  exact (show Tryd.prog.wantsStandIn 9 = false by kernel_rfl)

theorem linkOrder_card : Rows.LinkOrderCardSaid :=
  Claim7.holds_tied_plain_at .later [] _ _ _ _ linkOrder_said (fun _ h => by cases h) (by kernel_rfl) (fun _ h => by cases h) linkOrder_row_tie rfl ⟨rfl, rfl⟩ (by kernel_rfl) rfl linkOrder_plain (by kernel_rfl)

end Go.Proofs.YtnmpfpnldcgbaaaDoor
