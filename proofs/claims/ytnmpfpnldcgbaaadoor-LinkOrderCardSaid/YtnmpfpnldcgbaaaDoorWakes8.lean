/- The contract of lychgatelaw08.wakes in a world that holds the tables of lex: it returns true, and changes nothing that was in memory. -/
import Derived.Test.YtnmpfpnldcgbaaaDoorLnkN
import Derived.Test.YtnmpfpnldcgbaaaDoorP23
namespace Go.Proofs.YtnmpfpnldcgbaaaDoor
open Go.RowKit Go.Maps

def s8a : ByteArray := ⟨#[102, 110, 32, 102, 40, 41, 32, 123, 32, 125]⟩
def s8b : ByteArray := ⟨#[102, 110, 32, 109, 97, 105, 110, 40, 41, 32, 123, 32, 102, 40, 41, 59, 32, 125]⟩
def s8c : ByteArray := ⟨#[102, 110, 32, 109, 97, 105, 110, 40, 41, 32, 123, 32, 102, 40, 49, 41, 59, 32, 125]⟩
theorem end8a : (parseB s8a).2 = (0, 0) := by kernel_rfl
theorem end8b : (parseB s8b).2 = (0, 0) := by kernel_rfl
theorem end8c : (parseB s8c).2 = (0, 0) := by kernel_rfl
theorem link8b : (linkL (parseB s8a).1 (parseB s8b).1).1.codes.length = 2 ∧ (linkL (parseB s8a).1 (parseB s8b).1).1.libs = 1 ∧ (linkL (parseB s8a).1 (parseB s8b).1).1.main = 1 ∧ (linkL (parseB s8a).1 (parseB s8b).1).2.2.2 = 0 := ⟨by kernel_rfl, by kernel_rfl, by kernel_rfl, by kernel_rfl⟩
theorem link8c : (linkL (parseB s8a).1 (parseB s8c).1).2 = (12, true, 51) := by kernel_rfl

set_option maxRecDepth 100000 in
set_option maxHeartbeats 1000000 in
theorem wakes8_any (w : World) (ht : Tabs w) :
    Calls Tryd.prog 25 #[] w fun e w' => e = .returned (.bool true) ∧ Below w.heap.size w w' := by
  have HT := Lib.hid ht
  have ga := Lib.hid (parse_linkOk s8a)
  have gb := Lib.hid (parse_linkOk s8b)
  have gc := Lib.hid (parse_linkOk s8c)
  have lb := link8b
  have lc := link8c
  obtain ⟨ta, hqa⟩ : ∃ t, parseB s8a = (t, 0, 0) := ⟨(parseB s8a).1, by rw [← end8a]⟩
  obtain ⟨tb, hqb⟩ : ∃ t, parseB s8b = (t, 0, 0) := ⟨(parseB s8b).1, by rw [← end8b]⟩
  obtain ⟨tc, hqc⟩ : ∃ t, parseB s8c = (t, 0, 0) := ⟨(parseB s8c).1, by rw [← end8c]⟩
  rw [hqa] at ga lb lc
  rw [hqb] at gb lb
  rw [hqc] at gc lc
  have HLB := Lib.hid lb
  have HLC := Lib.hid lc
  have HQA := Lib.hid hqa
  have HQB := Lib.hid hqb
  have HQC := Lib.hid hqc
  clear ht lb lc hqa hqb hqc
  go_enter Tryd.func25, Tryd.ntmps25
  go_wp2_with fail
  refine (parse_any s8a w (by unfold maxLen; decide) HT.out).mono ?_
  rw [HQA.out]
  rintro e w1 ⟨kva, rfl, hka, hb1⟩
  have HOA := Lib.hid (KAt.one hka)
  have HKA := Lib.hid (KAt.alloc hka (.cells (nodeCells ta kva).toArray 25))
  have HBA := Lib.hid (hb1.alloc hb1.size (.cells (nodeCells ta kva).toArray 25))
  have HNA := Lib.hid (Blk.new w1 (nodeCells ta kva) 25)
  have HTA := Lib.hid (HT.out.below HBA.out HT.out.size)
  clear hka hb1
  unfold NodeV
  go_wp2_with ((with_reducible refine at_st 25 (.tmp 1) ?_); refine wpList_store_new rfl 25 (.tmp 1) (.tmp 20) rfl (nodeCells ta kva) (old := zeroNodeCells) rfl rfl Tryd.sizeNode rfl (nodeCells_one _ _ HOA.out) ?_)
  refine (parse_any s8b _ (by unfold maxLen; decide) HTA.out).mono ?_
  rw [HQB.out]
  rintro e w2 ⟨kvb, rfl, hkb, hb2⟩
  have HOB := Lib.hid (KAt.one hkb)
  have HKB := Lib.hid (KAt.alloc hkb (.cells (nodeCells tb kvb).toArray 25))
  have hb2' : Below (w1.alloc (.cells (nodeCells ta kva).toArray 25)).heap.size (w1.alloc (.cells (nodeCells ta kva).toArray 25)) (w2.alloc (.cells (nodeCells tb kvb).toArray 25)) := hb2.alloc hb2.size _
  have HKA2 := Lib.hid (HKA.out.below hb2')
  have HNA2 := Lib.hid (HNA.out.stays hb2')
  have HNB := Lib.hid (Blk.new w2 (nodeCells tb kvb) 25)
  have HBB := Lib.hid (HBA.out.trans (hb2'.mono HBA.out.size))
  have HTB := Lib.hid (HT.out.below HBB.out HT.out.size)
  clear hkb hb2 hb2' HKA HNA HTA
  unfold NodeV
  go_wp2_with ((with_reducible refine at_st 25 (.tmp 4) ?_); refine wpList_store_new rfl 25 (.tmp 4) (.tmp 25) rfl (nodeCells tb kvb) (old := zeroNodeCells) rfl rfl Tryd.sizeNode rfl (nodeCells_one _ _ HOB.out) ?_)
  refine (parse_any s8c _ (by unfold maxLen; decide) HTB.out).mono ?_
  rw [HQC.out]
  rintro e w3 ⟨kvc, rfl, hkc, hb3⟩
  have HOC := Lib.hid (KAt.one hkc)
  have HKC := Lib.hid (KAt.alloc hkc (.cells (nodeCells tc kvc).toArray 25))
  have hb3' : Below (w2.alloc (.cells (nodeCells tb kvb).toArray 25)).heap.size (w2.alloc (.cells (nodeCells tb kvb).toArray 25)) (w3.alloc (.cells (nodeCells tc kvc).toArray 25)) := hb3.alloc hb3.size _
  have HKA3 := Lib.hid (HKA2.out.below hb3')
  have HNA3 := Lib.hid (HNA2.out.stays hb3')
  have HKB3 := Lib.hid (HKB.out.below hb3')
  have HNB3 := Lib.hid (HNB.out.stays hb3')
  have HNC := Lib.hid (Blk.new w3 (nodeCells tc kvc) 25)
  have HBC := Lib.hid (HBB.out.trans (hb3'.mono HBB.out.size))
  clear hkc hb3 hb3' HKA2 HNA2 HTB HKB HNB HBA HBB
  obtain ⟨W3, hW3⟩ : ∃ W, w3.alloc (.cells (nodeCells tc kvc).toArray 25) = W := ⟨_, rfl⟩
  rw [hW3] at HKC HKA3 HNA3 HKB3 HNB3 HNC HBC
  unfold NodeV
  go_wp2_with (first
    | ((with_reducible refine at_st 25 (.tmp 7) ?_); refine wpList_store_new rfl 25 (.tmp 7) (.tmp 30) rfl (nodeCells tc kvc) (old := zeroNodeCells) rfl rfl Tryd.sizeNode rfl (nodeCells_one _ _ HOC.out) ?_)
    | ((with_reducible refine at_ld 25 (.tmp 1) ?_); refine wpList_load_blk rfl 25 (.tmp 1) rfl w1.heap.size (nodeCells ta kva) rfl (by first | exact HNA3.out | (rw [hW3]; exact HNA3.out)) Tryd.underlying25 rfl Tryd.sizeNode ?_)
    | ((with_reducible refine at_ld 25 (.tmp 4) ?_); refine wpList_load_blk rfl 25 (.tmp 4) rfl w2.heap.size (nodeCells tb kvb) rfl (by first | exact HNB3.out | (rw [hW3]; exact HNB3.out)) Tryd.underlying25 rfl Tryd.sizeNode ?_))
  first | refine calls_at W3 hW3 ?_ | skip
  clear hW3
  refine (link_ok HKA3.out HKB3.out ga.out gb.out).mono ?_
  rintro e w4 ⟨v4, rfl, hc4, hb4⟩
  obtain ⟨va4, vc4, rfl⟩ := hc4.slice
  obtain ⟨cs4, libs4, main4, p4, is4, e4, hr4⟩ : ∃ c l m p i e, linkL ta tb = (⟨c, l, m⟩, p, i, e) := ⟨_, _, _, _, _, _, rfl⟩
  have hlb := HLB.out
  rw [hr4] at hlb hc4 ⊢
  clear hr4
  obtain ⟨hl4, rfl, rfl, rfl⟩ : cs4.length = 2 ∧ libs4 = 1 ∧ main4 = 1 ∧ e4 = 0 := hlb
  have hc4' : CodsAt w4 cs4 (fun b => W3.heap.size ≤ b) (.slice va4 cs4.length vc4) := hc4
  have hb4' : Below W3.heap.size W3 (w4.alloc (.cells [.slice va4 2 vc4, .int .i64 1, .int .i64 1].toArray 60)) := hb4.alloc hb4.size _
  have HKA4 := Lib.hid (HKA3.out.below hb4')
  have HNA4 := Lib.hid (HNA3.out.stays hb4')
  have HKC4 := Lib.hid (HKC.out.below hb4')
  have HNC4 := Lib.hid (HNC.out.stays hb4')
  have HNI := Lib.hid (Blk.new w4 [.slice va4 2 vc4, .int .i64 1, .int .i64 1] 60)
  have HB4 := Lib.hid (HBC.out.trans (hb4'.mono HBC.out.size))
  clear hc4 hc4' hb4 hb4' HLB HKA3 HNA3 HKB3 HNB3 HKC HNC HBC
  obtain ⟨W4, hW4⟩ : ∃ W, w4.alloc (.cells [.slice va4 2 vc4, .int .i64 1, .int .i64 1].toArray 60) = W := ⟨_, rfl⟩
  rw [hW4] at HKA4 HNA4 HKC4 HNC4 HNI HB4
  rw [hl4]
  go_wp2_with (first
    | ((with_reducible refine at_st 60 (.tmp 10) ?_); refine wpList_store_new rfl 60 (.tmp 10) (.tmp 47) rfl [.slice va4 2 vc4, .int .i64 1, .int .i64 1] (old := imgCells (.slice none 0 0) 0 0) rfl rfl Tryd.sizeImage rfl (by intro x hx; simp only [List.mem_cons, List.not_mem_nil, or_false] at hx; rcases hx with rfl | rfl | rfl <;> rfl) ?_)
    | ((with_reducible refine at_ld 25 (.tmp 1) ?_); refine wpList_load_blk rfl 25 (.tmp 1) rfl w1.heap.size (nodeCells ta kva) rfl (by first | exact HNA4.out | (rw [hW4]; exact HNA4.out)) Tryd.underlying25 rfl Tryd.sizeNode ?_)
    | ((with_reducible refine at_ld 25 (.tmp 7) ?_); refine wpList_load_blk rfl 25 (.tmp 7) rfl w3.heap.size (nodeCells tc kvc) rfl (by first | exact HNC4.out | (rw [hW4]; exact HNC4.out)) Tryd.underlying25 rfl Tryd.sizeNode ?_))
  first | refine calls_at W4 hW4 ?_ | skip
  clear hW4
  refine (link_ok HKA4.out HKC4.out ga.out gc.out).mono ?_
  rintro e w5 ⟨v5, rfl, hc5, hb5⟩
  obtain ⟨va5, vc5, rfl⟩ := hc5.slice
  obtain ⟨cs5, libs5, main5, p5, is5, e5, hr5⟩ : ∃ c l m p i e, linkL ta tc = (⟨c, l, m⟩, p, i, e) := ⟨_, _, _, _, _, _, rfl⟩
  have hlc := HLC.out
  rw [hr5] at hlc ⊢
  obtain ⟨rfl, rfl, rfl⟩ : p5 = 12 ∧ is5 = true ∧ e5 = 51 := by simpa using hlc
  have HNJ := Lib.hid (Blk.stays (HNI.out.stays hb5) ((Below.refl _ _).alloc (Nat.le_refl _) (.cells [.slice va5 cs5.length vc5, .int .i64 libs5, .int .i64 main5].toArray 60)))
  have HB5 := Lib.hid (HB4.out.trans ((hb5.alloc hb5.size (.cells [.slice va5 cs5.length vc5, .int .i64 libs5, .int .i64 main5].toArray 60)).mono HB4.out.size))
  have i0 := HNJ.out.cell 0
  have i1 := HNJ.out.cell 1
  have i2 := HNJ.out.cell 2
  simp only [List.getElem?_cons_zero, List.getElem?_cons_succ] at i0 i1 i2
  clear hc5 hb5 hlc HLC hr5 HNI HNA4 HNC4 HKA4 HKC4
  go_wp2_with (first
    | ((with_reducible refine at_st 60 (.tmp 14) ?_); refine wpList_store_new rfl 60 (.tmp 14) (.tmp 55) rfl [.slice va5 cs5.length vc5, .int .i64 libs5, .int .i64 main5] (old := imgCells (.slice none 0 0) 0 0) rfl rfl Tryd.sizeImage rfl (by intro x hx; simp only [List.mem_cons, List.not_mem_nil, or_false] at hx; rcases hx with rfl | rfl | rfl <;> rfl) ?_))
  go_ret
  exact ⟨rfl, HB5.out⟩

end Go.Proofs.YtnmpfpnldcgbaaaDoor
