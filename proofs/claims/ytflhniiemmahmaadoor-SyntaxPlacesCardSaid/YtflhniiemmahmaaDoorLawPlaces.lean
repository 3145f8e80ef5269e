/- Proved here: for every text and every number that lychgatelaw02.SyntaxPlaces is called with, in every memory in which lex's tables stand as the program's text lays them, the call returns true and the arguments read as before. Conditions: the package-level tables lex.keys, lex.blanks and lex.pairs hold what their initialisers lay (the card ties them to the program's text). -/
import Derived.Test.YtflhniiemmahmaaDoorWakes2
import Derived.Test.YtflhniiemmahmaaDoorToks
import Derived.Test.YtflhniiemmahmaaDoorMoved
import Derived.Test.YtflhniiemmahmaaDoorTabs2
namespace Go.Proofs.YtflhniiemmahmaaDoor
open Go.ChangeShapes Go.WideShapes Go.ChangeAt Go.RowKit

def padK (k : Nat) : ByteArray := ⟨(List.replicate k (32 : UInt8)).toArray⟩
theorem padK_size (k : Nat) : (padK k).size = k := by
  have h : (padK k).data.toList.length = (padK k).size := Array.length_toList
  rw [← h]
  show (List.replicate k (32 : UInt8)).length = k
  simp
theorem padK_eq (k : Nat) (hk : k < 20) : (⟨#[32, 32, 32, 32, 32, 32, 32, 32, 32, 32, 32, 32, 32, 32, 32, 32, 32, 32, 32, 32]⟩ : ByteArray).extract 0 k = padK k := by
  apply bytes_ext
  have h := extract_list (⟨#[32, 32, 32, 32, 32, 32, 32, 32, 32, 32, 32, 32, 32, 32, 32, 32, 32, 32, 32, 32]⟩ : ByteArray) 0 k
  rw [Nat.zero_add, List.drop_zero] at h
  rw [h, show (⟨#[32, 32, 32, 32, 32, 32, 32, 32, 32, 32, 32, 32, 32, 32, 32, 32, 32, 32, 32, 32]⟩ : ByteArray).data.toList = List.replicate 20 32 from rfl, List.take_replicate, Nat.min_eq_left (by omega)]
  rfl
theorem parse_place {s : ByteArray} {t : T} {p : Nat} {e : Int} (h : parseB s = (t, p, e)) : p ≤ s.size := by
  cases hl : lexAll s with
  | error q =>
    obtain ⟨k, c⟩ := q
    rw [parseB_err hl] at h
    cases h
    unfold lexAll at hl
    split at hl
    · cases hl; omega
    · have := (lex_fault 0 hl).2.1
      omega
  | ok ts =>
    rw [parseB_ok hl] at h
    unfold parseToks at h
    cases hu : unitP ts with
    | ok q =>
      obtain ⟨a, l⟩ := q
      rw [hu] at h
      simp only at h
      split at h <;> (cases h; omega)
    | error q =>
      obtain ⟨q1, q2⟩ := q
      rw [hu] at h
      cases h
      have hpast := unit_p ts
      rw [hu] at hpast
      obtain ⟨y, hy, hny⟩ := lexAll_end hl
      rcases hpast with ⟨t, ht, hp⟩ | hall
      · have hp' : p = t.place := hp.1
        rw [hp']
        exact (lex_place 0 ts (Nat.zero_le _) (lexAll_from hl).1 t ht).1
      · exact absurd (hall y hy) hny
theorem padB_zero (a : ByteArray) : padB 0 a = a := by
  apply bytes_ext
  rw [padB_list]
  rfl

set_option maxHeartbeats 4000000 in
set_option maxRecDepth 100000 in
theorem syntaxPlaces_none (a : ByteArray) (n : Int) (w : World) (hsa : a.size ≤ maxLen) (hla : a.size ≤ 140737488351232) (hn : n ≤ 0) (ht : Tabs w) :
    Calls Tryd.prog 5 #[.string a, .int .i64 n] w fun e w' => e = .returned (.bool true) ∧ Below w.heap.size w w' := by
  have HT := Lib.hid ht
  have HTX := Lib.hid (padB_zero a)
  have HTS := Lib.hid hsa

  by_cases hbig : 0 + a.size ≤ 16384
  case neg =>
    cases hq : parseB a with
    | mk t q =>
    obtain ⟨p, c⟩ := q
    cases hq2 : parseB (padB (0) a) with
    | mk t2 q2 =>
    obtain ⟨p2, c2⟩ := q2
    have HQ := Lib.hid hq
    have HQ2 := Lib.hid (show parseB (a) = (t2, p2, c2) by rw [← HTX.out]; exact hq2)
    clear hq hq2 ht
    have hbg : 16384 < (a.size : Int) + (0 : Int) := by omega
    go_enter Tryd.func5, Tryd.ntmps5
    go_wp2_with fail
    refine (parse_any a w hsa HT.out).mono ?_
    rw [HQ.out]
    rintro e w1 ⟨kv, rfl, hk, hb⟩
    have HK := Lib.hid (show KAt 25 w1 t.kids (fun b => w.heap.size ≤ b) kv from hk)
    have HO := Lib.hid HK.out.one
    have HB := Lib.hid hb
    have HT1 := Lib.hid (HT.out.below hb HT.out.size)
    have HN1 := Lib.hid (Blk.new w1 (nodeCells t kv) 25)
    clear hk hb
    unfold NodeV
    go_wp2_with ((with_reducible refine at_st 25 (.tmp 5) ?_); refine wpList_store_new rfl 25 (.tmp 5) (.tmp 15) rfl (nodeCells t kv) (old := zeroNodeCells) rfl rfl Tryd.sizeNode rfl (nodeCells_one _ _ HO.out) ?_)
    refine (parse_any (a) _ HTS.out HT1.out.alloc).mono ?_
    rw [HQ2.out]
    rintro e w2 ⟨k2, rfl, hk2, hb2⟩
    have HK2 := Lib.hid (show KAt 25 w2 t2.kids _ k2 from hk2)
    have HO2 := Lib.hid HK2.out.one
    have HN2 := Lib.hid ((HN1.out.below hb2).alloc (.cells (nodeCells t2 k2).toArray 25))
    have HM2 := Lib.hid (Blk.new w2 (nodeCells t2 k2) 25)
    have HKA2 := Lib.hid (((HK.out.alloc (.cells (nodeCells t kv).toArray 25)).below hb2).alloc (.cells (nodeCells t2 k2).toArray 25))
    have HKB2 := Lib.hid (HK2.out.alloc (.cells (nodeCells t2 k2).toArray 25))
    have HB2 := Lib.hid (((HB.out.alloc HB.out.size _).trans (hb2.mono (by simp; have := HB.out.size; omega))).alloc (by have := HB.out.size; have := hb2.size; simp at this; omega) (.cells (nodeCells t2 k2).toArray 25))
    have HT2 := Lib.hid (HT.out.below HB2.out HT.out.size)
    clear hk2 hb2 HK HK2 HN1
    unfold NodeV
    go_wp2_with ((with_reducible refine at_st 25 (.tmp 9) ?_); refine wpList_store_new rfl 25 (.tmp 9) (.tmp 27) rfl (nodeCells t2 k2) (old := zeroNodeCells) rfl rfl Tryd.sizeNode rfl (nodeCells_one _ _ HO2.out) ?_)
    refine (wakes_any _ HT2.out).mono ?_
    rintro e w3 ⟨rfl, hb3⟩
    have HB3 := Lib.hid (HB2.out.trans (hb3.mono HB2.out.size))
    have HT3 := Lib.hid (HT2.out.below hb3 HT2.out.size)
    have HN3 := Lib.hid (HN2.out.below hb3)
    have HM3 := Lib.hid (HM2.out.below hb3)
    have HKA3 := Lib.hid (HKA2.out.below hb3)
    have HKB3 := Lib.hid (HKB2.out.below hb3)
    clear hb3 HN2 HM2 HKA2 HKB2 HB2 HT2
    go_wp2_with fail
    refine (wakes_any _ HT3.out).mono ?_
    rintro e w4 ⟨rfl, hb4⟩
    have HB4 := Lib.hid (HB3.out.trans (hb4.mono HB3.out.size))
    clear hb4
    go_wp2
    go_ret
    exact ⟨rfl, HB4.out⟩
  case pos =>
    obtain ⟨xs, xs2, p, p2, c, hq, hq2, hTs, hpl⟩ := parse_pad hbig
    have HQ := Lib.hid hq
    have HQ2 := Lib.hid (show parseB (a) = (.mk 0 e0 0 0 xs2, p2, c) by rw [← HTX.out]; exact hq2)
    have HG1 := Lib.hid (show (T.mk 0 e0 0 0 xs).size ≤ 4096 by have := (parse_good a).2; rw [hq] at this; exact this)
    have HMV := Lib.hid (moved_top hTs)
    have HIN := Lib.hid (show insideB 0 a.size (.mk 0 e0 0 0 xs) = true by have := parse_inside a; rw [hq] at this; exact this)
    have HPL := Lib.hid hpl
    have haz : a.size ≤ 16384 := by omega
    have hpz2 : p ≤ 16384 := Nat.le_trans (parse_place hq) haz
    clear hq hq2 ht hTs hpl
    have hbg : ¬ 16384 < (a.size : Int) + (0 : Int) := by omega
    generalize ht1 : T.mk 0 e0 0 0 xs = t at *
    generalize ht2 : T.mk 0 e0 0 0 xs2 = t2 at *
    clear ht1 ht2
    go_enter Tryd.func5, Tryd.ntmps5
    go_wp2_with fail
    refine (parse_any a w hsa HT.out).mono ?_
    rw [HQ.out]
    rintro e w1 ⟨kv, rfl, hk, hb⟩
    have HK := Lib.hid (show KAt 25 w1 t.kids (fun b => w.heap.size ≤ b) kv from hk)
    have HO := Lib.hid HK.out.one
    have HB := Lib.hid hb
    have HT1 := Lib.hid (HT.out.below hb HT.out.size)
    have HN1 := Lib.hid (Blk.new w1 (nodeCells t kv) 25)
    clear hk hb
    unfold NodeV
    go_wp2_with ((with_reducible refine at_st 25 (.tmp 5) ?_); refine wpList_store_new rfl 25 (.tmp 5) (.tmp 15) rfl (nodeCells t kv) (old := zeroNodeCells) rfl rfl Tryd.sizeNode rfl (nodeCells_one _ _ HO.out) ?_)
    refine (parse_any (a) _ HTS.out HT1.out.alloc).mono ?_
    rw [HQ2.out]
    rintro e w2 ⟨k2, rfl, hk2, hb2⟩
    have HK2 := Lib.hid (show KAt 25 w2 t2.kids _ k2 from hk2)
    have HO2 := Lib.hid HK2.out.one
    have HN2 := Lib.hid ((HN1.out.below hb2).alloc (.cells (nodeCells t2 k2).toArray 25))
    have HM2 := Lib.hid (Blk.new w2 (nodeCells t2 k2) 25)
    have HKA2 := Lib.hid (((HK.out.alloc (.cells (nodeCells t kv).toArray 25)).below hb2).alloc (.cells (nodeCells t2 k2).toArray 25))
    have HKB2 := Lib.hid (HK2.out.alloc (.cells (nodeCells t2 k2).toArray 25))
    have HB2 := Lib.hid (((HB.out.alloc HB.out.size _).trans (hb2.mono (by simp; have := HB.out.size; omega))).alloc (by have := HB.out.size; have := hb2.size; simp at this; omega) (.cells (nodeCells t2 k2).toArray 25))
    have HT2 := Lib.hid (HT.out.below HB2.out HT.out.size)
    clear hk2 hb2 HK HK2 HN1
    unfold NodeV
    go_wp2_with ((with_reducible refine at_st 25 (.tmp 9) ?_); refine wpList_store_new rfl 25 (.tmp 9) (.tmp 27) rfl (nodeCells t2 k2) (old := zeroNodeCells) rfl rfl Tryd.sizeNode rfl (nodeCells_one _ _ HO2.out) ?_)
    refine (wakes_any _ HT2.out).mono ?_
    rintro e w3 ⟨rfl, hb3⟩
    have HB3 := Lib.hid (HB2.out.trans (hb3.mono HB2.out.size))
    have HT3 := Lib.hid (HT2.out.below hb3 HT2.out.size)
    have HN3 := Lib.hid (HN2.out.below hb3)
    have HM3 := Lib.hid (HM2.out.below hb3)
    have HKA3 := Lib.hid (HKA2.out.below hb3)
    have HKB3 := Lib.hid (HKB2.out.below hb3)
    clear hb3 HN2 HM2 HKA2 HKB2 HB2 HT2
    have hway : (c != 0) = false ∨ ((c != 0) = true ∧ (c != 22) = false) ∨ ((c != 0) = true ∧ (c != 22) = true ∧ p2 = p) := by
      by_cases h0 : c = 0
      · exact .inl (by simp [h0])
      · by_cases h22 : c = 22
        · exact .inr (.inl ⟨by simp [h22], by simp [h22]⟩)
        · refine .inr (.inr ⟨by simp [h0], by simp [h22], ?_⟩)
          rcases HPL.out with h | h | h
          · exact absurd h h0
          · exact absurd h h22
          · exact h
    rcases hway with hw1 | ⟨hw1, hw2⟩ | ⟨hw1, hw2, rfl⟩
    case inr.inl =>
      go_wp2_with fail
      go_ret
      exact ⟨rfl, HB3.out⟩
    case inr.inr =>
      skip
      go_wp2_with fail
      go_ret
      exact ⟨rfl, HB3.out⟩
    have c0 : w3.cell? ⟨w1.heap.size, 0, none⟩ = some (.int .i64 t.kind) := HN3.out.cell 0
    have c1 : w3.cell? ⟨w1.heap.size, 1, none⟩ = some (.string t.text) := HN3.out.cell 1
    have c2 : w3.cell? ⟨w1.heap.size, 2, none⟩ = some (.int .i64 t.num) := HN3.out.cell 2
    have c3 : w3.cell? ⟨w1.heap.size, 3, none⟩ = some (.int .i64 t.place) := HN3.out.cell 3
    have c4 : w3.cell? ⟨w1.heap.size, 4, none⟩ = some kv := HN3.out.cell 4
    have d0 : w3.cell? ⟨w2.heap.size, 0, none⟩ = some (.int .i64 t2.kind) := HM3.out.cell 0
    have d1 : w3.cell? ⟨w2.heap.size, 1, none⟩ = some (.string t2.text) := HM3.out.cell 1
    have d2 : w3.cell? ⟨w2.heap.size, 2, none⟩ = some (.int .i64 t2.num) := HM3.out.cell 2
    have d3 : w3.cell? ⟨w2.heap.size, 3, none⟩ = some (.int .i64 t2.place) := HM3.out.cell 3
    have d4 : w3.cell? ⟨w2.heap.size, 4, none⟩ = some k2 := HM3.out.cell 4
    go_wp2_with fail
    refine (moved_any (0) a.size (by omega) haz _ t t2 0 true (Nat.le_refl _) HKA3.out HKB3.out (by have := HG1.out; omega) HMV.out HIN.out).mono ?_
    rintro e w4 ⟨rfl, hb4⟩
    have HN4 := Lib.hid (HN3.out.below hb4)
    have HKA4 := Lib.hid (HKA3.out.below hb4)
    have HB4 := Lib.hid (HB3.out.trans (hb4.mono HB3.out.size))
    clear hb4 c0 c1 c2 c3 c4 d0 d1 d2 d3 d4
    have c0 : w4.cell? ⟨w1.heap.size, 0, none⟩ = some (.int .i64 t.kind) := HN4.out.cell 0
    have c1 : w4.cell? ⟨w1.heap.size, 1, none⟩ = some (.string t.text) := HN4.out.cell 1
    have c2 : w4.cell? ⟨w1.heap.size, 2, none⟩ = some (.int .i64 t.num) := HN4.out.cell 2
    have c3 : w4.cell? ⟨w1.heap.size, 3, none⟩ = some (.int .i64 t.place) := HN4.out.cell 3
    have c4 : w4.cell? ⟨w1.heap.size, 4, none⟩ = some kv := HN4.out.cell 4
    go_wp2_with fail
    refine (inside_any a.size _ t 0 (Nat.le_refl _) HKA4.out (by have := HG1.out; omega) HIN.out).mono ?_
    rintro e w5 ⟨rfl, hb5⟩
    have HB5 := Lib.hid (HB4.out.trans (hb5.mono HB4.out.size))
    clear hb5
    go_wp2_with fail
    go_ret
    exact ⟨rfl, HB5.out⟩

set_option maxHeartbeats 4000000 in
set_option maxRecDepth 100000 in
theorem syntaxPlaces_some (a : ByteArray) (n : Int) (w : World) (hsa : a.size ≤ maxLen) (hla : a.size ≤ 140737488351232) (hn : 0 < n) (ht : Tabs w) :
    Calls Tryd.prog 5 #[.string a, .int .i64 n] w fun e w' => e = .returned (.bool true) ∧ Below w.heap.size w w' := by
  have HT := Lib.hid ht
  obtain ⟨k, hk, hk20⟩ : ∃ k : Nat, n % 20 = (k : Int) ∧ k < 20 := ⟨(n % 20).toNat, by omega, by omega⟩
  have hpk := padK_eq k hk20
  have hpz := padK_size k
  have HTX := Lib.hid (show padB k a = padK k ++ a from rfl)
  have HTS := Lib.hid (show (padK k ++ a).size ≤ maxLen by rw [ByteArray.size_append, hpz]; unfold maxLen; omega)

  by_cases hbig : k + a.size ≤ 16384
  case neg =>
    cases hq : parseB a with
    | mk t q =>
    obtain ⟨p, c⟩ := q
    cases hq2 : parseB (padB (k) a) with
    | mk t2 q2 =>
    obtain ⟨p2, c2⟩ := q2
    have HQ := Lib.hid hq
    have HQ2 := Lib.hid (show parseB (padK k ++ a) = (t2, p2, c2) by rw [← HTX.out]; exact hq2)
    clear hq hq2 ht
    have hbg : 16384 < (a.size : Int) + ((k : Int) : Int) := by omega
    go_enter Tryd.func5, Tryd.ntmps5
    go_wp2_with fail
    refine (parse_any a w hsa HT.out).mono ?_
    rw [HQ.out]
    rintro e w1 ⟨kv, rfl, hk, hb⟩
    have HK := Lib.hid (show KAt 25 w1 t.kids (fun b => w.heap.size ≤ b) kv from hk)
    have HO := Lib.hid HK.out.one
    have HB := Lib.hid hb
    have HT1 := Lib.hid (HT.out.below hb HT.out.size)
    have HN1 := Lib.hid (Blk.new w1 (nodeCells t kv) 25)
    clear hk hb
    unfold NodeV
    go_wp2_with ((with_reducible refine at_st 25 (.tmp 5) ?_); refine wpList_store_new rfl 25 (.tmp 5) (.tmp 15) rfl (nodeCells t kv) (old := zeroNodeCells) rfl rfl Tryd.sizeNode rfl (nodeCells_one _ _ HO.out) ?_)
    refine (parse_any (padK k ++ a) _ HTS.out HT1.out.alloc).mono ?_
    rw [HQ2.out]
    rintro e w2 ⟨k2, rfl, hk2, hb2⟩
    have HK2 := Lib.hid (show KAt 25 w2 t2.kids _ k2 from hk2)
    have HO2 := Lib.hid HK2.out.one
    have HN2 := Lib.hid ((HN1.out.below hb2).alloc (.cells (nodeCells t2 k2).toArray 25))
    have HM2 := Lib.hid (Blk.new w2 (nodeCells t2 k2) 25)
    have HKA2 := Lib.hid (((HK.out.alloc (.cells (nodeCells t kv).toArray 25)).below hb2).alloc (.cells (nodeCells t2 k2).toArray 25))
    have HKB2 := Lib.hid (HK2.out.alloc (.cells (nodeCells t2 k2).toArray 25))
    have HB2 := Lib.hid (((HB.out.alloc HB.out.size _).trans (hb2.mono (by simp; have := HB.out.size; omega))).alloc (by have := HB.out.size; have := hb2.size; simp at this; omega) (.cells (nodeCells t2 k2).toArray 25))
    have HT2 := Lib.hid (HT.out.below HB2.out HT.out.size)
    clear hk2 hb2 HK HK2 HN1
    unfold NodeV
    go_wp2_with ((with_reducible refine at_st 25 (.tmp 9) ?_); refine wpList_store_new rfl 25 (.tmp 9) (.tmp 27) rfl (nodeCells t2 k2) (old := zeroNodeCells) rfl rfl Tryd.sizeNode rfl (nodeCells_one _ _ HO2.out) ?_)
    refine (wakes_any _ HT2.out).mono ?_
    rintro e w3 ⟨rfl, hb3⟩
    have HB3 := Lib.hid (HB2.out.trans (hb3.mono HB2.out.size))
    have HT3 := Lib.hid (HT2.out.below hb3 HT2.out.size)
    have HN3 := Lib.hid (HN2.out.below hb3)
    have HM3 := Lib.hid (HM2.out.below hb3)
    have HKA3 := Lib.hid (HKA2.out.below hb3)
    have HKB3 := Lib.hid (HKB2.out.below hb3)
    clear hb3 HN2 HM2 HKA2 HKB2 HB2 HT2
    go_wp2_with fail
    refine (wakes_any _ HT3.out).mono ?_
    rintro e w4 ⟨rfl, hb4⟩
    have HB4 := Lib.hid (HB3.out.trans (hb4.mono HB3.out.size))
    clear hb4
    go_wp2
    go_ret
    exact ⟨rfl, HB4.out⟩
  case pos =>
    obtain ⟨xs, xs2, p, p2, c, hq, hq2, hTs, hpl⟩ := parse_pad hbig
    have HQ := Lib.hid hq
    have HQ2 := Lib.hid (show parseB (padK k ++ a) = (.mk 0 e0 0 0 xs2, p2, c) by rw [← HTX.out]; exact hq2)
    have HG1 := Lib.hid (show (T.mk 0 e0 0 0 xs).size ≤ 4096 by have := (parse_good a).2; rw [hq] at this; exact this)
    have HMV := Lib.hid (moved_top hTs)
    have HIN := Lib.hid (show insideB 0 a.size (.mk 0 e0 0 0 xs) = true by have := parse_inside a; rw [hq] at this; exact this)
    have HPL := Lib.hid hpl
    have haz : a.size ≤ 16384 := by omega
    have hpz2 : p ≤ 16384 := Nat.le_trans (parse_place hq) haz
    clear hq hq2 ht hTs hpl
    have hbg : ¬ 16384 < (a.size : Int) + ((k : Int) : Int) := by omega
    generalize ht1 : T.mk 0 e0 0 0 xs = t at *
    generalize ht2 : T.mk 0 e0 0 0 xs2 = t2 at *
    clear ht1 ht2
    go_enter Tryd.func5, Tryd.ntmps5
    go_wp2_with fail
    refine (parse_any a w hsa HT.out).mono ?_
    rw [HQ.out]
    rintro e w1 ⟨kv, rfl, hk, hb⟩
    have HK := Lib.hid (show KAt 25 w1 t.kids (fun b => w.heap.size ≤ b) kv from hk)
    have HO := Lib.hid HK.out.one
    have HB := Lib.hid hb
    have HT1 := Lib.hid (HT.out.below hb HT.out.size)
    have HN1 := Lib.hid (Blk.new w1 (nodeCells t kv) 25)
    clear hk hb
    unfold NodeV
    go_wp2_with ((with_reducible refine at_st 25 (.tmp 5) ?_); refine wpList_store_new rfl 25 (.tmp 5) (.tmp 15) rfl (nodeCells t kv) (old := zeroNodeCells) rfl rfl Tryd.sizeNode rfl (nodeCells_one _ _ HO.out) ?_)
    refine (parse_any (padK k ++ a) _ HTS.out HT1.out.alloc).mono ?_
    rw [HQ2.out]
    rintro e w2 ⟨k2, rfl, hk2, hb2⟩
    have HK2 := Lib.hid (show KAt 25 w2 t2.kids _ k2 from hk2)
    have HO2 := Lib.hid HK2.out.one
    have HN2 := Lib.hid ((HN1.out.below hb2).alloc (.cells (nodeCells t2 k2).toArray 25))
    have HM2 := Lib.hid (Blk.new w2 (nodeCells t2 k2) 25)
    have HKA2 := Lib.hid (((HK.out.alloc (.cells (nodeCells t kv).toArray 25)).below hb2).alloc (.cells (nodeCells t2 k2).toArray 25))
    have HKB2 := Lib.hid (HK2.out.alloc (.cells (nodeCells t2 k2).toArray 25))
    have HB2 := Lib.hid (((HB.out.alloc HB.out.size _).trans (hb2.mono (by simp; have := HB.out.size; omega))).alloc (by have := HB.out.size; have := hb2.size; simp at this; omega) (.cells (nodeCells t2 k2).toArray 25))
    have HT2 := Lib.hid (HT.out.below HB2.out HT.out.size)
    clear hk2 hb2 HK HK2 HN1
    unfold NodeV
    go_wp2_with ((with_reducible refine at_st 25 (.tmp 9) ?_); refine wpList_store_new rfl 25 (.tmp 9) (.tmp 27) rfl (nodeCells t2 k2) (old := zeroNodeCells) rfl rfl Tryd.sizeNode rfl (nodeCells_one _ _ HO2.out) ?_)
    refine (wakes_any _ HT2.out).mono ?_
    rintro e w3 ⟨rfl, hb3⟩
    have HB3 := Lib.hid (HB2.out.trans (hb3.mono HB2.out.size))
    have HT3 := Lib.hid (HT2.out.below hb3 HT2.out.size)
    have HN3 := Lib.hid (HN2.out.below hb3)
    have HM3 := Lib.hid (HM2.out.below hb3)
    have HKA3 := Lib.hid (HKA2.out.below hb3)
    have HKB3 := Lib.hid (HKB2.out.below hb3)
    clear hb3 HN2 HM2 HKA2 HKB2 HB2 HT2
    have hway : (c != 0) = false ∨ ((c != 0) = true ∧ (c != 22) = false) ∨ ((c != 0) = true ∧ (c != 22) = true ∧ p2 = p + k) := by
      by_cases h0 : c = 0
      · exact .inl (by simp [h0])
      · by_cases h22 : c = 22
        · exact .inr (.inl ⟨by simp [h22], by simp [h22]⟩)
        · refine .inr (.inr ⟨by simp [h0], by simp [h22], ?_⟩)
          rcases HPL.out with h | h | h
          · exact absurd h h0
          · exact absurd h h22
          · exact h
    rcases hway with hw1 | ⟨hw1, hw2⟩ | ⟨hw1, hw2, rfl⟩
    case inr.inl =>
      go_wp2_with fail
      go_ret
      exact ⟨rfl, HB3.out⟩
    case inr.inr =>
      have hw3 : (((p + k : Nat) : Int) != (p : Int) + (k : Int)) = false := by simp
      go_wp2_with fail
      go_ret
      exact ⟨rfl, HB3.out⟩
    have c0 : w3.cell? ⟨w1.heap.size, 0, none⟩ = some (.int .i64 t.kind) := HN3.out.cell 0
    have c1 : w3.cell? ⟨w1.heap.size, 1, none⟩ = some (.string t.text) := HN3.out.cell 1
    have c2 : w3.cell? ⟨w1.heap.size, 2, none⟩ = some (.int .i64 t.num) := HN3.out.cell 2
    have c3 : w3.cell? ⟨w1.heap.size, 3, none⟩ = some (.int .i64 t.place) := HN3.out.cell 3
    have c4 : w3.cell? ⟨w1.heap.size, 4, none⟩ = some kv := HN3.out.cell 4
    have d0 : w3.cell? ⟨w2.heap.size, 0, none⟩ = some (.int .i64 t2.kind) := HM3.out.cell 0
    have d1 : w3.cell? ⟨w2.heap.size, 1, none⟩ = some (.string t2.text) := HM3.out.cell 1
    have d2 : w3.cell? ⟨w2.heap.size, 2, none⟩ = some (.int .i64 t2.num) := HM3.out.cell 2
    have d3 : w3.cell? ⟨w2.heap.size, 3, none⟩ = some (.int .i64 t2.place) := HM3.out.cell 3
    have d4 : w3.cell? ⟨w2.heap.size, 4, none⟩ = some k2 := HM3.out.cell 4
    go_wp2_with fail
    refine (moved_any (k) a.size (by omega) haz _ t t2 0 true (Nat.le_refl _) HKA3.out HKB3.out (by have := HG1.out; omega) HMV.out HIN.out).mono ?_
    rintro e w4 ⟨rfl, hb4⟩
    have HN4 := Lib.hid (HN3.out.below hb4)
    have HKA4 := Lib.hid (HKA3.out.below hb4)
    have HB4 := Lib.hid (HB3.out.trans (hb4.mono HB3.out.size))
    clear hb4 c0 c1 c2 c3 c4 d0 d1 d2 d3 d4
    have c0 : w4.cell? ⟨w1.heap.size, 0, none⟩ = some (.int .i64 t.kind) := HN4.out.cell 0
    have c1 : w4.cell? ⟨w1.heap.size, 1, none⟩ = some (.string t.text) := HN4.out.cell 1
    have c2 : w4.cell? ⟨w1.heap.size, 2, none⟩ = some (.int .i64 t.num) := HN4.out.cell 2
    have c3 : w4.cell? ⟨w1.heap.size, 3, none⟩ = some (.int .i64 t.place) := HN4.out.cell 3
    have c4 : w4.cell? ⟨w1.heap.size, 4, none⟩ = some kv := HN4.out.cell 4
    go_wp2_with fail
    refine (inside_any a.size _ t 0 (Nat.le_refl _) HKA4.out (by have := HG1.out; omega) HIN.out).mono ?_
    rintro e w5 ⟨rfl, hb5⟩
    have HB5 := Lib.hid (HB4.out.trans (hb5.mono HB4.out.size))
    clear hb5
    go_wp2_with fail
    go_ret
    exact ⟨rfl, HB5.out⟩

theorem syntaxPlaces_walk (a : ByteArray) (n : Int) (w : World) (hsa : a.size ≤ maxLen) (hla : a.size ≤ 140737488351232) (_ : (Lit.int .i64 n).wf = true) (ht : Tabs w) :
    Calls Tryd.prog 5 #[.string a, .int .i64 n] w fun e w' => e = .returned (.bool true) ∧ Below w.heap.size w w' := by
  rcases Int.lt_or_le 0 n with h | h
  · exact syntaxPlaces_some a n w hsa hla h ht
  · exact syntaxPlaces_none a n w hsa hla h ht

theorem syntaxPlaces_reads (os : Os) {H : Type} (enc : TypeId × Value → H) : ∃ places, DataW.whole enc Tryd.prog ((laidWorld os).forCall (fun _ _ => 0) ⟨#[], #[.string ⟨#[]⟩, .int .i64 0], []⟩).memory Tryd.f5.params.toList Rows.syntaxPlacesSpec.vars false #[Value.string ⟨#[]⟩, Value.int .i64 0].toList 8 = some ([.lit (.string []), .lit (.int .i64 0)], [], places) :=
  ⟨[], by kernel_rfl⟩

set_option maxRecDepth 100000 in
theorem syntaxPlaces_lifted (os : Os) (started : os.Started) (H : Type) (enc : TypeId × Value → H) (F : Stop.Interp) :
    ReturnsInHanded {} Tryd.checked os 5 .any ((OpenSpec.ofChange Rows.syntaxPlacesSpec).preRow enc Tryd.prog Tryd.f5 Rows.syntaxPlacesRow.domain false Rows.syntaxPlacesRow.laid) (((OpenSpec.ofChange Rows.syntaxPlacesSpec).at F).post enc Tryd.prog Tryd.f5 false true false false) := by
  obtain ⟨places, hx⟩ := syntaxPlaces_reads os enc
  refine returnsInHanded_of_row (C := Tryd.checked) (s := OpenSpec.ofChange Rows.syntaxPlacesSpec) own started (by kernel_rfl) Tryd.func5
    (witness_row_at (enc := enc) (C := Tryd.checked) false (laidWorld os) #[.string ⟨#[]⟩, .int .i64 0] rfl (by kernel_rfl) (by kernel_rfl) (by kernel_rfl)
      (OpenSpec.preRow_of_cond 8 hx (by kernel_rfl) (fun k hk => by cases hk) (by kernel_rfl) (laid_met_textInt os))) ?_
  intro W base args ds gs before hval hW _ _ hreach hL _ _
  exact textInt_contract Tryd.params5 (by kernel_rfl) rfl (fun _ _ => rfl) syntaxPlaces_walk W base args ds gs before hval hW hreach hL

theorem syntaxPlaces_said : Rows.SyntaxPlacesSaid :=
  OpenClaim.holds_of_cond 5 Tryd.f5 rfl rfl rfl rfl rfl rfl rfl ⟨rfl, rfl, rfl, rfl, rfl⟩ rfl rfl rfl rfl rfl (by kernel_rfl) Tryd.func5 (by kernel_rfl)
    (of_decide_eq_true (by kernel_rfl)) (by unfold Func.isWrapper; first | (rw [if_pos (by decide +kernel)]; kernel_rfl) | (rw [if_neg (by decide +kernel)]; exact ⟨rfl, rfl⟩))
    (fun os started H enc _ F => by rw [OpenClaim.pre_eq_preRow]; exact syntaxPlaces_lifted os started H enc F)

theorem syntaxPlaces_plain (f : FuncId) (fn : Func) (hf : Tryd.pinned.checked.prog.funcNamed "lychgate/lychgatelaw02.SyntaxPlaces" = some f) (hfn : Tryd.pinned.checked.prog.funcs[f]? = some fn) :
    true = Tryd.pinned.checked.prog.looks [] ∧ ∀ (j : Nat) t, fn.params[j]? = some t → Tryd.pinned.checked.prog.wantsStandIn t = false := by
  obtain rfl : f = 5 := Option.some.inj ((show Tryd.prog.funcNamed "lychgate/lychgatelaw02.SyntaxPlaces" = some 5 by kernel_rfl).symm.trans hf) |>.symm
  obtain rfl : fn = Tryd.f5 := (Option.some.inj (Tryd.func5.symm.trans hfn)).symm
  refine ⟨by kernel_rfl, fun j t ht => ?_⟩
  rw [Tryd.params5] at ht
  have hm : t = 9 ∨ t = 3 := by simpa using Array.mem_of_getElem? ht
  rcases hm with rfl | rfl
  · exact (show Tryd.prog.wantsStandIn 9 = false by kernel_rfl)
  · exact (show Tryd.prog.wantsStandIn 3 = false by kernel_rfl)

theorem syntaxPlaces_card : Rows.SyntaxPlacesCardSaid :=
  Claim7.holds_tied_plain_at .later [] _ _ _ _ syntaxPlaces_said (fun _ h => by cases h) (by kernel_rfl) (fun _ h => by cases h) syntaxPlaces_row_tie rfl ⟨rfl, rfl⟩ (by kernel_rfl) rfl syntaxPlaces_plain (by kernel_rfl)

end Go.Proofs.YtflhniiemmahmaaDoor
