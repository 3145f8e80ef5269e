/- Proved here: for every three texts that lychgatelaw08.LinkMore is called with, in every memory in which lex's tables stand as the program's text lays them, the call returns true and the texts read as before. Conditions: the package-level tables lex.keys, lex.blanks and lex.pairs hold what their initialisers lay (the card ties them to the program's text). -/
import Derived.Test.YtnmpfpnldcgbaaaDoorQ1
import Derived.Test.YtnmpfpnldcgbaaaDoorQ3
namespace Go.Proofs.YtnmpfpnldcgbaaaDoor
open Go.ChangeShapes Go.WideShapes Go.ChangeAt Go.RowKit Go.Maps

theorem join_law (a s : ByteArray) : a ++ ⟨#[10, 102, 110, 32]⟩ ++ s ++ ⟨#[40, 41, 32, 123, 32, 125]⟩ = joinB a (fnB s) := by
  apply bytes_ext
  rw [joinB_list, fnB_list]
  rw [ByteArray.data_append, ByteArray.data_append, ByteArray.data_append]
  simp
set_option maxHeartbeats 2000000 in
set_option maxRecDepth 100000 in
theorem linkMore_walk (a b s : ByteArray) (w : World) (hsa : a.size ≤ maxLen) (hsb : b.size ≤ maxLen) (hss : s.size ≤ maxLen) (hla : a.size ≤ 140737488351232) (hls : s.size ≤ 140737488351232) (ht : Tabs w) :
    Calls Tryd.prog 11 #[.string a, .string b, .string s] w fun e w' => e = .returned (.bool true) ∧ Below w.heap.size w w' := by
  have HT := Lib.hid ht
  have hjl := Lib.hid (join_law a s)
  have ga := Lib.hid (parse_linkOk a)
  have gb := Lib.hid (parse_linkOk b)
  have gc := Lib.hid (parse_linkOk (joinB a (fnB s)))
  have HSJ := Lib.hid (show (joinB a (fnB s)).size ≤ maxLen by rw [joinB_size, fnB_size]; unfold maxLen; omega)
  have HPM := Lib.hid (fun ta p tc q hn ha hc => @parse_more a s ta tc p q hn ha hc)
  obtain ⟨ta, pa, ca, hqa⟩ : ∃ t p c, parseB a = (t, p, c) := ⟨_, _, _, rfl⟩
  obtain ⟨tb, pb, cb, hqb⟩ : ∃ t p c, parseB b = (t, p, c) := ⟨_, _, _, rfl⟩
  obtain ⟨tc, pc, cc, hqc⟩ : ∃ t p c, parseB (joinB a (fnB s)) = (t, p, c) := ⟨_, _, _, rfl⟩
  rw [hqa] at ga
  rw [hqb] at gb
  rw [hqc] at gc
  have HQA := Lib.hid hqa
  have HQB := Lib.hid hqb
  have HQC := Lib.hid hqc
  have HSA := Lib.hid hsa
  have HSB := Lib.hid hsb
  have HSS := Lib.hid hss
  have HTX := HT
  have HBX := Lib.hid (Below.refl w.heap.size w)
  have HLA := Lib.hid hla
  have HLS := Lib.hid hls
  clear ht hqa hqb hqc hsa hsb hss hla hls
  go_enter Tryd.func11, Tryd.ntmps11
  go_wp2_with fail
  refine (isName_any s w HSS.out HT.out).mono ?_
  rintro e w0 ⟨rfl, rfl⟩
  cases hnm : isNameB s with
  | false =>
    go_wp2_with fail
    refine (wakes8_any _ HTX.out).mono ?_
    rintro e w9 ⟨rfl, hb9⟩
    have HB9 := Lib.hid (HBX.out.trans (hb9.mono HBX.out.size))
    clear hb9
    go_wp2_with fail
    go_ret
    exact ⟨rfl, HB9.out⟩
  | true =>
    have HNM := Lib.hid hnm
    go_wp2_with fail
    refine (parse_any a w HSA.out HT.out).mono ?_
    rw [HQA.out]
    rintro e w1 ⟨kva, rfl, hka, hb1⟩
    have HOA := Lib.hid (KAt.one hka)
    have HKA := Lib.hid (KAt.alloc hka (.cells (nodeCells ta kva).toArray 25))
    have HBA := Lib.hid (hb1.alloc hb1.size (.cells (nodeCells ta kva).toArray 25))
    have HNA := Lib.hid (Blk.new w1 (nodeCells ta kva) 25)
    have HTA := Lib.hid (HT.out.below HBA.out HT.out.size)
    clear hka hb1
    unfold NodeV
    go_wp2_with ((with_reducible refine at_st 25 (.tmp 7) ?_); refine wpList_store_new rfl 25 (.tmp 7) (.tmp 31) rfl (nodeCells ta kva) (old := zeroNodeCells) rfl rfl Tryd.sizeNode rfl (nodeCells_one _ _ HOA.out) ?_)
    refine (parse_any b _ HSB.out HTA.out).mono ?_
    rw [HQB.out]
    rintro e w2 ⟨kvb, rfl, hkb, hb2⟩
    have HOB := Lib.hid (KAt.one hkb)
    have HKB := Lib.hid (KAt.alloc hkb (.cells (nodeCells tb kvb).toArray 25))
    have hb2' : Below (w1.alloc (.cells (nodeCells ta kva).toArray 25)).heap.size (w1.alloc (.cells (nodeCells ta kva).toArray 25)) (w2.alloc (.cells (nodeCells tb kvb).toArray 25)) := hb2.alloc hb2.size _
    have HKA2 := Lib.hid (HKA.out.below hb2')
    have HNA2 := Lib.hid (HNA.out.stays hb2')
    have HNB := Lib.hid (Blk.new w2 (nodeCells tb kvb) 25)
    have HBB := Lib.hid (HBA.out.trans (hb2'.mono HBA.out.size))
    have HTB := Lib.hid (HT.out.below HBB.out HT.out.size)
    clear hkb hb2 hb2' HKA HNA HTA HBA
    unfold NodeV
    have hla := HLA.out
    have hls := HLS.out
    go_wp2_with ((with_reducible refine at_st 25 (.tmp 10) ?_); refine wpList_store_new rfl 25 (.tmp 10) (.tmp 37) rfl (nodeCells tb kvb) (old := zeroNodeCells) rfl rfl Tryd.sizeNode rfl (nodeCells_one _ _ HOB.out) ?_)
    clear hla hls
    rw [hjl.out]
    refine (parse_any (joinB a (fnB s)) _ HSJ.out HTB.out).mono ?_
    rw [HQC.out]
    rintro e w3 ⟨kvc, rfl, hkc, hb3⟩
    have HOC := Lib.hid (KAt.one hkc)
    have HKC := Lib.hid (KAt.alloc hkc (.cells (nodeCells tc kvc).toArray 25))
    have hb3' : Below (w2.alloc (.cells (nodeCells tb kvb).toArray 25)).heap.size (w2.alloc (.cells (nodeCells tb kvb).toArray 25)) (w3.alloc (.cells (nodeCells tc kvc).toArray 25)) := hb3.alloc hb3.size _
    have HKA3 := Lib.hid (HKA2.out.below hb3')
    have HNA3 := Lib.hid (HNA2.out.stays hb3')
    have HKB3 := Lib.hid (HKB.out.below hb3')
    have HNB3 := Lib.hid (HNB.out.stays hb3')
    have HNC := Lib.hid (Blk.new w3 (nodeCells tc kvc) 25)
    have HBC := Lib.hid (HBB.out.trans (hb3'.mono HBB.out.size))
    have HTC := Lib.hid (HT.out.below HBC.out HT.out.size)
    clear hkc hb3 hb3' HKA2 HNA2 HKB HNB HBB HTB
    unfold NodeV
    go_wp2_with ((with_reducible refine at_st 25 (.tmp 13) ?_); refine wpList_store_new rfl 25 (.tmp 13) (.tmp 47) rfl (nodeCells tc kvc) (old := zeroNodeCells) rfl rfl Tryd.sizeNode rfl (nodeCells_one _ _ HOC.out) ?_)
    refine (wakes8_any _ HTC.out).mono ?_
    rintro e w4 ⟨rfl, hb4⟩
    have HKA4 := Lib.hid (HKA3.out.below hb4)
    have HNA4 := Lib.hid (HNA3.out.stays hb4)
    have HKB4 := Lib.hid (HKB3.out.below hb4)
    have HNB4 := Lib.hid (HNB3.out.stays hb4)
    have HKC4 := Lib.hid (HKC.out.below hb4)
    have HNC4 := Lib.hid (HNC.out.stays hb4)
    have HBX := Lib.hid (HBC.out.trans (hb4.mono HBC.out.size))
    have HTX := Lib.hid (HT.out.below HBX.out HT.out.size)
    clear hb4 HKA3 HNA3 HKB3 HNB3 HKC HNC HBC HTC
    by_cases habc : ca = 0 ∧ cb = 0 ∧ cc = 0
    · obtain ⟨rfl, rfl, rfl⟩ := habc
      obtain ⟨fp, fq, hkids⟩ := HPM.out ta pa tc pc HNM.out HQA.out HQC.out
      have HKD := Lib.hid hkids
      have hkl : tc.kids.length = ta.kids.length + 1 := by rw [hkids]; simp
      have hkb : ta.kids.length ≤ 4990 := by
        have h1 := len_sizes ta.kids
        have h2 : ta.size = 1 + sizes ta.kids := by cases ta; rw [size_mk]; rfl
        have h3 : ta.size ≤ 4990 := ga.out.s
        omega
      obtain ⟨ka1, ka2, hka⟩ : ∃ x y, kva = .slice x ta.kids.length y := by
        rcases HKA4.out.form with ⟨h, h'⟩ | ⟨g, c, h, _⟩
        · exact ⟨none, 0, by rw [h', h]; rfl⟩
        · exact ⟨_, _, h⟩
      obtain ⟨kc1, kc2, hkc⟩ : ∃ x y, kvc = .slice x (ta.kids.length + 1) y := by
        rcases HKC4.out.form with ⟨h, h'⟩ | ⟨g, c, h, _⟩
        · rw [h'] at hkl; simp at hkl
        · exact ⟨_, _, by rw [h, hkl]⟩
      subst hka
      subst hkc
      have na4 : w4.cell? ⟨w1.heap.size, 4, none⟩ = some (.slice ka1 ta.kids.length ka2) := HNA4.out.cell 4
      have nc4 : w4.cell? ⟨w3.heap.size, 4, none⟩ = some (.slice kc1 (ta.kids.length + 1) kc2) := HNC4.out.cell 4
      clear hkids hkl
      by_cases hmn : s = mainS
      · subst hmn
        have hm0 : mainS.toList = [109, 97, 105, 110] := by kernel_rfl
        go_wp2_with fail
        refine (wakes8_any _ HTX.out).mono ?_
        rintro e w9 ⟨rfl, hb9⟩
        have HB9 := Lib.hid (HBX.out.trans (hb9.mono HBX.out.size))
        clear hb9
        go_wp2_with fail
        go_ret
        exact ⟨rfl, HB9.out⟩
      · have hm1 : (s.toList == mainS.toList) = false := by simpa using fun h => hmn (toList_eq_iff.1 h)
        have hm2 : (s.toList == [109, 97, 105, 110]) = false := by
          have hm0 : mainS.toList = [109, 97, 105, 110] := by kernel_rfl
          rw [← hm0]
          exact hm1
        have HM1 := Lib.hid hm1
        have x0 : w4.cell? ⟨w1.heap.size, 0, none⟩ = some (.int .i64 ta.kind) := HNA4.out.cell 0
        have x1 : w4.cell? ⟨w1.heap.size, 1, none⟩ = some (.string ta.text) := HNA4.out.cell 1
        have x2 : w4.cell? ⟨w1.heap.size, 2, none⟩ = some (.int .i64 ta.num) := HNA4.out.cell 2
        have x3 : w4.cell? ⟨w1.heap.size, 3, none⟩ = some (.int .i64 ta.place) := HNA4.out.cell 3
        go_wp2_with fail
        clear x0 x1 x2 x3
        refine (uses_any s _ ta (Nat.le_refl _) HKA4.out (by have := ga.out.s; omega)).mono ?_
        rintro e w5 ⟨rfl, hb5⟩
        have HKA5 := Lib.hid (HKA4.out.below hb5)
        have HNA5 := Lib.hid (HNA4.out.stays hb5)
        have HKB5 := Lib.hid (HKB4.out.below hb5)
        have HNB5 := Lib.hid (HNB4.out.stays hb5)
        have HKC5 := Lib.hid (HKC4.out.below hb5)
        have HNC5 := Lib.hid (HNC4.out.stays hb5)
        have HBX5 := Lib.hid (HBX.out.trans (hb5.mono HBX.out.size))
        clear hb5 HKA4 HNA4 HKB4 HNB4 HKC4 HNC4 na4 nc4 HBX HTX
        have HBX := HBX5
        have HTX := Lib.hid (HT.out.below HBX.out HT.out.size)
        clear HBX5
        cases hua : ta.usesB s with
        | true =>
          go_wp2_with fail
          refine (wakes8_any _ HTX.out).mono ?_
          rintro e w9 ⟨rfl, hb9⟩
          have HB9 := Lib.hid (HBX.out.trans (hb9.mono HBX.out.size))
          clear hb9
          go_wp2_with fail
          go_ret
          exact ⟨rfl, HB9.out⟩
        | false =>
          have HUA := Lib.hid hua
          have y0 : w5.cell? ⟨w2.heap.size, 0, none⟩ = some (.int .i64 tb.kind) := HNB5.out.cell 0
          have y1 : w5.cell? ⟨w2.heap.size, 1, none⟩ = some (.string tb.text) := HNB5.out.cell 1
          have y2 : w5.cell? ⟨w2.heap.size, 2, none⟩ = some (.int .i64 tb.num) := HNB5.out.cell 2
          have y3 : w5.cell? ⟨w2.heap.size, 3, none⟩ = some (.int .i64 tb.place) := HNB5.out.cell 3
          have y4 : w5.cell? ⟨w2.heap.size, 4, none⟩ = some kvb := HNB5.out.cell 4
          go_wp2_with fail
          clear y0 y1 y2 y3 y4
          refine (uses_any s _ tb (Nat.le_refl _) HKB5.out (by have := gb.out.s; omega)).mono ?_
          rintro e w6 ⟨rfl, hb6⟩
          have HKA6 := Lib.hid (HKA5.out.below hb6)
          have HNA6 := Lib.hid (HNA5.out.stays hb6)
          have HKB6 := Lib.hid (HKB5.out.below hb6)
          have HNB6 := Lib.hid (HNB5.out.stays hb6)
          have HKC6 := Lib.hid (HKC5.out.below hb6)
          have HNC6 := Lib.hid (HNC5.out.stays hb6)
          have HBX6 := Lib.hid (HBX.out.trans (hb6.mono HBX.out.size))
          clear hb6 HKA5 HNA5 HKB5 HNB5 HKC5 HNC5 HBX HTX
          have HBX := HBX6
          have HTX := Lib.hid (HT.out.below HBX.out HT.out.size)
          clear HBX6
          cases hub : tb.usesB s with
          | true =>
            go_wp2_with fail
            refine (wakes8_any _ HTX.out).mono ?_
            rintro e w9 ⟨rfl, hb9⟩
            have HB9 := Lib.hid (HBX.out.trans (hb9.mono HBX.out.size))
            clear hb9
            go_wp2_with fail
            go_ret
            exact ⟨rfl, HB9.out⟩
          | false =>
            have HMORE := Lib.hid (link_more ga.out gb.out HKD.out rfl (lower_fnT s fp fq) HUA.out hub HM1.out)
            go_wp2_with (first
              | ((with_reducible refine at_ld 25 (.tmp 7) ?_); refine wpList_load_blk rfl 25 (.tmp 7) rfl w1.heap.size (nodeCells ta (.slice ka1 ta.kids.length ka2)) rfl HNA6.out Tryd.underlying25 rfl Tryd.sizeNode ?_)
              | ((with_reducible refine at_ld 25 (.tmp 10) ?_); refine wpList_load_blk rfl 25 (.tmp 10) rfl w2.heap.size (nodeCells tb kvb) rfl HNB6.out Tryd.underlying25 rfl Tryd.sizeNode ?_))
            refine (link_ok HKA6.out HKB6.out ga.out gb.out).mono ?_
            rintro e w7 ⟨v7, rfl, hc7, hb7⟩
            obtain ⟨va7, vc7, rfl⟩ := hc7.slice
            obtain ⟨cs7, libs7, main7, p7, is7, e7, hr7⟩ : ∃ c l m p i e, linkL ta tb = (⟨c, l, m⟩, p, i, e) := ⟨_, _, _, _, _, _, rfl⟩
            rw [hr7] at HMORE ⊢
            clear hc7
            have hb7' : Below w6.heap.size w6 (w7.alloc (.cells [.slice va7 cs7.length vc7, .int .i64 libs7, .int .i64 main7].toArray 60)) := hb7.alloc hb7.size _
            have HKC7 := Lib.hid (HKC6.out.below hb7')
            have HNC7 := Lib.hid (HNC6.out.stays hb7')
            have HKB7 := Lib.hid (HKB6.out.below hb7')
            have HNB7 := Lib.hid (HNB6.out.stays hb7')
            have HB7 := Lib.hid (HBX.out.trans (hb7'.mono HBX.out.size))
            clear hb7 hb7' hr7 HKA6 HNA6 HKB6 HNB6 HKC6 HNC6 HBX HTX
            go_wp2_with (first
              | ((with_reducible refine at_st 60 (.tmp 16) ?_); refine wpList_store_new rfl 60 (.tmp 16) (.tmp 93) rfl [.slice va7 cs7.length vc7, .int .i64 libs7, .int .i64 main7] (old := imgCells (.slice none 0 0) 0 0) rfl rfl Tryd.sizeImage rfl (by intro x hx; simp only [List.mem_cons, List.not_mem_nil, or_false] at hx; rcases hx with rfl | rfl | rfl <;> rfl) ?_)
              | ((with_reducible refine at_ld 25 (.tmp 13) ?_); refine wpList_load_blk rfl 25 (.tmp 13) rfl w3.heap.size (nodeCells tc (.slice kc1 (ta.kids.length + 1) kc2)) rfl HNC7.out Tryd.underlying25 rfl Tryd.sizeNode ?_)
              | ((with_reducible refine at_ld 25 (.tmp 10) ?_); refine wpList_load_blk rfl 25 (.tmp 10) rfl w2.heap.size (nodeCells tb kvb) rfl HNB7.out Tryd.underlying25 rfl Tryd.sizeNode ?_))
            refine (link_ok HKC7.out HKB7.out gc.out gb.out).mono ?_
            rintro e w8 ⟨v8, rfl, hc8, hb8⟩
            obtain ⟨va8, vc8, rfl⟩ := hc8.slice
            obtain ⟨cs8, libs8, main8, p8, is8, e8, hr8⟩ : ∃ c l m p i e, linkL tc tb = (⟨c, l, m⟩, p, i, e) := ⟨_, _, _, _, _, _, rfl⟩
            rw [hr8] at HMORE ⊢
            obtain ⟨rfl, rfl, rfl⟩ : p8 = p7 ∧ is8 = is7 ∧ e8 = e7 := by simpa using HMORE.out
            have HB8 := Lib.hid (HB7.out.trans ((hb8.alloc hb8.size (.cells [.slice va8 cs8.length vc8, .int .i64 libs8, .int .i64 main8].toArray 60)).mono HB7.out.size))
            clear hc8 hb8 hr8
            go_wp2_with ((with_reducible refine at_st 60 (.tmp 20) ?_); refine wpList_store_new rfl 60 (.tmp 20) (.tmp 101) rfl [.slice va8 cs8.length vc8, .int .i64 libs8, .int .i64 main8] (old := imgCells (.slice none 0 0) 0 0) rfl rfl Tryd.sizeImage rfl (by intro x hx; simp only [List.mem_cons, List.not_mem_nil, or_false] at hx; rcases hx with rfl | rfl | rfl <;> rfl) ?_)
            go_ret
            exact ⟨rfl, HB8.out⟩
    · have herr : (ca = 0 ∧ cb = 0 ∧ (cc != 0) = true) ∨ (ca = 0 ∧ (cb != 0) = true) ∨ (ca != 0) = true := by
        simp only [bne_iff_ne, ne_eq]
        by_cases h : ca = 0
        · by_cases h' : cb = 0
          · exact .inl ⟨h, h', fun h'' => habc ⟨h, h', h''⟩⟩
          · exact .inr (.inl ⟨h, h'⟩)
        · exact .inr (.inr h)
      rcases herr with ⟨rfl, rfl, h2⟩ | ⟨rfl, h2⟩ | h2
      all_goals
        go_wp2_with fail
        refine (wakes8_any _ HTX.out).mono ?_
        rintro e w9 ⟨rfl, hb9⟩
        have HB9 := Lib.hid (HBX.out.trans (hb9.mono HBX.out.size))
        clear hb9
        go_wp2_with fail
        go_ret
        exact ⟨rfl, HB9.out⟩

theorem linkMore_reads (os : Os) {H : Type} (enc : TypeId × Value → H) : ∃ places, DataW.whole enc Tryd.prog ((laidWorld os).forCall (fun _ _ => 0) ⟨#[], #[.string ⟨#[]⟩, .string ⟨#[]⟩, .string ⟨#[]⟩], []⟩).memory Tryd.f11.params.toList Rows.linkMoreSpec.vars false #[Value.string ⟨#[]⟩, Value.string ⟨#[]⟩, Value.string ⟨#[]⟩].toList 8 = some ([.lit (.string []), .lit (.string []), .lit (.string [])], [], places) :=
  ⟨[], by kernel_rfl⟩

set_option maxRecDepth 100000 in
theorem linkMore_lifted (os : Os) (started : os.Started) (H : Type) (enc : TypeId × Value → H) (F : Stop.Interp) :
    ReturnsInHanded {} Tryd.checked os 11 .any ((OpenSpec.ofChange Rows.linkMoreSpec).preRow enc Tryd.prog Tryd.f11 Rows.linkMoreRow.domain false Rows.linkMoreRow.laid) (((OpenSpec.ofChange Rows.linkMoreSpec).at F).post enc Tryd.prog Tryd.f11 false true false false) := by
  obtain ⟨places, hx⟩ := linkMore_reads os enc
  refine returnsInHanded_of_row (C := Tryd.checked) (s := OpenSpec.ofChange Rows.linkMoreSpec) own started (by kernel_rfl) Tryd.func11
    (witness_row_at (enc := enc) (C := Tryd.checked) false (laidWorld os) #[.string ⟨#[]⟩, .string ⟨#[]⟩, .string ⟨#[]⟩] rfl (by kernel_rfl) (by kernel_rfl) (by kernel_rfl)
      (OpenSpec.preRow_of_cond 8 hx (by kernel_rfl) (fun k hk => by cases hk) (by kernel_rfl) (laid_met_texts3 os))) ?_
  intro W base args ds gs before hval hW _ _ hreach hL _ _
  exact texts3_contract Tryd.params11 (by kernel_rfl) rfl (fun _ _ _ => rfl) linkMore_walk W base args ds gs before hval hW hreach hL

theorem linkMore_said : Rows.LinkMoreSaid :=
  OpenClaim.holds_of_cond 11 Tryd.f11 rfl rfl rfl rfl rfl rfl rfl ⟨rfl, rfl, rfl, rfl, rfl⟩ rfl rfl rfl rfl rfl (by kernel_rfl) Tryd.func11 (by kernel_rfl)
    (of_decide_eq_true (by kernel_rfl)) (by unfold Func.isWrapper; first | (rw [if_pos (by decide +kernel)]; kernel_rfl) | (rw [if_neg (by decide +kernel)]; exact ⟨rfl, rfl⟩))
    (fun os started H enc _ F => by rw [OpenClaim.pre_eq_preRow]; exact linkMore_lifted os started H enc F)

theorem linkMore_plain (f : FuncId) (fn : Func) (hf : Tryd.pinned.checked.prog.funcNamed "lychgate/lychgatelaw08.LinkMore" = some f) (hfn : Tryd.pinned.checked.prog.funcs[f]? = some fn) :
    true = Tryd.pinned.checked.prog.looks [] ∧ ∀ (j : Nat) t, fn.params[j]? = some t → Tryd.pinned.checked.prog.wantsStandIn t = false := by
  obtain rfl : f = 11 := Option.some.inj ((show Tryd.prog.funcNamed "lychgate/lychgatelaw08.LinkMore" = some 11 by kernel_rfl).symm.trans hf) |>.symm
  obtain rfl : fn = Tryd.f11 := (Option.some.inj (Tryd.func11.symm.trans hfn)).symm
  refine ⟨by kernel_rfl, fun j t ht => ?_⟩
  rw [Tryd.params11] at ht
  obtain rfl : t = 9 := by simpa using Array.mem_of_getElem? ht
  exact (show Tryd.prog.wantsStandIn 9 = false by kernel_rfl)

theorem linkMore_card : Rows.LinkMoreCardSaid :=
  Claim7.holds_tied_plain_at .later [] _ _ _ _ linkMore_said (fun _ h => by cases h) (by kernel_rfl) (fun _ h => by cases h) linkMore_row_tie rfl ⟨rfl, rfl⟩ (by kernel_rfl) rfl linkMore_plain (by kernel_rfl)

end Go.Proofs.YtnmpfpnldcgbaaaDoor
