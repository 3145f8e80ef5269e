/- The contract of lychgateref07.Names, by what is there to be told (part 1). -/
import Derived.Test.YtnmpfpnldcgbaaaDoorHNm6
namespace Go.Proofs.YtnmpfpnldcgbaaaDoor
open Go.RowKit

set_option maxRecDepth 100000 in
set_option maxHeartbeats 4000000 in
theorem refNames_ttt {w : World} {op pl : Int} {x y an bn : ByteArray} {am bm : Int} {A : Option Addr} {cap : Nat} {tt : Int} {has : Bool} {ts : List Tm} {D1 D2 : Bool} (hT : TmsAt w w.heap.size A ts) (hb : (ts.length + 2) * 24 ≤ 140737488355328)
    (h1 : decide (5 ≤ op) = D1) (h2 : decide (op ≤ 9) = D2) (h12 : (D1 && D2) = true) (ha : (an.toList == ([] : List UInt8)) = false) (hbn : (bn.toList == ([] : List UInt8)) = false) :
    Calls Tryd.prog 20 #[.agg #[.int .i64 op, .int .i64 pl, .string x, .string y, .string an, .int .i64 am, .string bn, .int .i64 bm, .slice A ts.length cap, .int .i64 tt, .bool has]] w fun e w' => ∃ v, e = .returned v ∧ StrsAt w' (namesI op y (⟨an, am⟩ :: ⟨bn, bm⟩ :: ts)) (fun k => w.heap.size ≤ k) v ∧ Below w.heap.size w w' := by
  obtain ⟨i1, z1, I1⟩ := Tryd.strInfo
  have HT := Lib.hid hT
  have HL := Lib.hid hb
  have HNE := Lib.hid (show namesI op y (⟨an, am⟩ :: ⟨bn, bm⟩ :: ts) = [y, an, bn] ++ nmsOf ts from by
    rw [namesI_eq]
    unfold yOf nmOf
    rw [h1, h2, h12, ha, hbn]
    rfl)
  have HIN := Lib.hid (show RnSt w [.int .i64 op, .int .i64 pl, .string x, .string y, .string an, .int .i64 am, .string bn, .int .i64 bm, .slice A ts.length cap, .int .i64 tt, .bool has] [] (.slice none 0 0) (w.alloc (.cells ([.int .i64 op, .int .i64 pl, .string x, .string y, .string an, .int .i64 am, .string bn, .int .i64 bm, .slice A ts.length cap, .int .i64 tt, .bool has]).toArray 48)) from ⟨StrsAt.nil _ _, Blk.new w _ _, (Below.refl _ _).alloc (Nat.le_refl _) _⟩)
  have hl1 : ts.length ≤ 5864062014804 := by omega
  clear hT hb
  obtain ⟨rfl, rfl⟩ : D1 = true ∧ D2 = true := by simpa using h12
  go_enter Tryd.func20, Tryd.ntmps20
  go_wp2_with (at_builtin; refine wpList_append_str2 (u := y) (ss := []) (S := fun k => w.heap.size < k) rfl (.tmp 13) (.tmp 16) rfl I1 rfl (HIN.out.s.alloc (.cells #[.string y] 9)) (by first | omega | (simp; omega)) rfl (by go_simp) (by simp) ?_)
  intro v1 W1 hs1 hg1
  obtain ⟨pa1, pn1, pc1, rfl⟩ : ∃ a n c, v1 = .slice a n c := by obtain ⟨a, c, h⟩ := hs1.slice; exact ⟨a, _, c, h⟩
  have HR1 := Lib.hid ((HIN.out.alloc (.cells #[.string y] 9)).put hg1 hs1)
  clear hs1 hg1
  have c23 := HR1.out.n.cell 3
  have c24 := HR1.out.n.cell 4
  have c26 := HR1.out.n.cell 6
  simp only [List.getElem?_cons_zero, List.getElem?_cons_succ] at c23 c24 c26
  have hz2 := HR1.out.n.lt
  go_wp2_with (at_builtin; refine wpList_append_str2 (u := an) (ss := [y]) (S := fun k => w.heap.size < k) rfl (.tmp 22) (.tmp 26) rfl I1 rfl (HR1.out.s.alloc (.cells #[.string an] 9)) (by first | omega | (simp; omega)) rfl (by go_simp) (by simp) ?_)
  intro v2 W2 hs2 hg2
  obtain ⟨pa2, pn2, pc2, rfl⟩ : ∃ a n c, v2 = .slice a n c := by obtain ⟨a, c, h⟩ := hs2.slice; exact ⟨a, _, c, h⟩
  have HR2 := Lib.hid ((HR1.out.alloc (.cells #[.string an] 9)).put hg2 hs2)
  clear hs2 hg2
  clear c23 c24 c26 hz2
  have c33 := HR2.out.n.cell 3
  have c34 := HR2.out.n.cell 4
  have c36 := HR2.out.n.cell 6
  simp only [List.getElem?_cons_zero, List.getElem?_cons_succ] at c33 c34 c36
  have hz3 := HR2.out.n.lt
  go_wp2_with (at_builtin; refine wpList_append_str2 (u := bn) (ss := [y, an]) (S := fun k => w.heap.size < k) rfl (.tmp 32) (.tmp 36) rfl I1 rfl (HR2.out.s.alloc (.cells #[.string bn] 9)) (by first | omega | (simp; omega)) rfl (by go_simp) (by simp) ?_)
  intro v3 W3 hs3 hg3
  obtain ⟨pa3, pn3, pc3, rfl⟩ : ∃ a n c, v3 = .slice a n c := by obtain ⟨a, c, h⟩ := hs3.slice; exact ⟨a, _, c, h⟩
  have HR3 := Lib.hid ((HR2.out.alloc (.cells #[.string bn] 9)).put hg3 hs3)
  clear hs3 hg3
  clear c33 c34 c36 hz3
  have d4 := HR3.out.n.cell 4
  have d6 := HR3.out.n.cell 6
  simp only [List.getElem?_cons_zero, List.getElem?_cons_succ] at d4 d6
  have hzz := HR3.out.n.lt
  go_wp2_with fail
  go_loopg [3, 4] ts.length (fun gk v i wr => RnRel w [.int .i64 op, .int .i64 pl, .string x, .string y, .string an, .int .i64 am, .string bn, .int .i64 bm, .slice A ts.length cap, .int .i64 tt, .bool has] [y, an, bn] ts gk v i wr)
  case atStart => exact ⟨0, by omega, by omega, rfl, by rw [List.take_zero, nmsOf, List.append_nil]; exact HR3.out⟩
  case round =>
    obtain ⟨k, hk, hgk, rfl, hst⟩ := hrel
    have HS := Lib.hid hst
    have e8 := hst.n.cell 8
    simp only [List.getElem?_cons_zero, List.getElem?_cons_succ] at e8
    have hzr := hst.n.lt
    obtain ⟨qa, qn, qc, rfl⟩ : ∃ a n c, u3 = .slice a n c := by obtain ⟨a, c, h⟩ := hst.s.slice; exact ⟨a, _, c, h⟩
    clear hst
    by_cases hlt : k < ts.length
    · obtain ⟨t, ht⟩ : ∃ t, ts[k]? = some t := ⟨ts[k], List.getElem?_eq_getElem hlt⟩
      obtain ⟨gb, off, rfl, hgb, hcell⟩ := HT.out (by omega)
      have q0 := (HS.out.b.cell (p := ⟨gb, off + k * 2, none⟩) hgb).trans (hcell k t ht).1
      have HTK := Lib.hid (nmsOf_take _ _ _ ht)
      have HPN := Lib.hid (show ([y, an, bn] ++ nmsOf (ts.take k)).length ≤ 3 + k from by
        have h1 := nmsOf_len (ts.take k)
        have h2 : (ts.take k).length ≤ k := by simp; omega
        simp
        omega)
      obtain ⟨tn, tm⟩ := t
      clear ht hcell
      dsimp only at q0
      cases hn : (tn.toList == ([] : List UInt8)) with
      | true =>
        have hnm : nmOf ⟨tn, tm⟩ = [] := by unfold nmOf; rw [hn]; rfl
        go_wp2_with fail
        go_roundg (gk - 1)
        case measure => omega
        case rel =>
          refine ⟨k + 1, by omega, by omega, by go_num, ?_⟩
          rw [HTK.out, hnm, List.append_nil]
          exact HS.out
      | false =>
        have hnm : nmOf ⟨tn, tm⟩ = [tn] := by unfold nmOf; rw [hn]; rfl
        have hgr : gb < wr.heap.size := by have := HS.out.b.size; omega
        go_wp2_with (at_builtin; refine wpList_append_str2 (u := tn) rfl (.tmp 52) (.tmp 59) rfl I1 rfl (HS.out.s.alloc (.cells #[.string tn] 9)) ?c2 rfl ?c3 ?c4 ?_)
        case c2 => first | omega | (simp; omega)
        case c4 => have h1 := HPN.out; have h2 := HL.out; first | omega | (simp at h1 ⊢; omega)
        any_goals go_simp
        intro v' w' hs' hg'
        have HP2 := Lib.hid ((HS.out.alloc (.cells #[.string tn] 9)).put hg' hs')
        obtain ⟨a', n', c', rfl⟩ : ∃ a n c, v' = .slice a n c := by obtain ⟨a, c, h⟩ := hs'.slice; exact ⟨a, _, c, h⟩
        clear hs' hg'
        go_wp2_with fail
        go_roundg (gk - 1)
        case measure => omega
        case rel =>
          refine ⟨k + 1, by omega, by omega, by go_num, ?_⟩
          rw [HTK.out, hnm]
          first
            | exact HP2.out
            | (rw [← List.append_assoc]; exact HP2.out)
    · have hE : ts.take k = ts := List.take_of_length_le (by omega)
      have HF := Lib.hid (show RnSt w [.int .i64 op, .int .i64 pl, .string x, .string y, .string an, .int .i64 am, .string bn, .int .i64 bm, .slice A ts.length cap, .int .i64 tt, .bool has] (namesI op y (⟨an, am⟩ :: ⟨bn, bm⟩ :: ts)) _ wr from by have := HS.out; rw [hE] at this; rw [HNE.out]; exact this)
      go_wp2_with fail
      go_ret
      exact ⟨_, rfl, HF.out.s.keep fun b hb _ => ⟨Nat.le_of_lt hb, rfl⟩, HF.out.b⟩

set_option maxRecDepth 100000 in
set_option maxHeartbeats 4000000 in
theorem refNames_ttf {w : World} {op pl : Int} {x y an bn : ByteArray} {am bm : Int} {A : Option Addr} {cap : Nat} {tt : Int} {has : Bool} {ts : List Tm} {D1 D2 : Bool} (hT : TmsAt w w.heap.size A ts) (hb : (ts.length + 2) * 24 ≤ 140737488355328)
    (h1 : decide (5 ≤ op) = D1) (h2 : decide (op ≤ 9) = D2) (h12 : (D1 && D2) = true) (ha : (an.toList == ([] : List UInt8)) = false) (hbn : (bn.toList == ([] : List UInt8)) = true) :
    Calls Tryd.prog 20 #[.agg #[.int .i64 op, .int .i64 pl, .string x, .string y, .string an, .int .i64 am, .string bn, .int .i64 bm, .slice A ts.length cap, .int .i64 tt, .bool has]] w fun e w' => ∃ v, e = .returned v ∧ StrsAt w' (namesI op y (⟨an, am⟩ :: ⟨bn, bm⟩ :: ts)) (fun k => w.heap.size ≤ k) v ∧ Below w.heap.size w w' := by
  obtain ⟨i1, z1, I1⟩ := Tryd.strInfo
  have HT := Lib.hid hT
  have HL := Lib.hid hb
  have HNE := Lib.hid (show namesI op y (⟨an, am⟩ :: ⟨bn, bm⟩ :: ts) = [y, an] ++ nmsOf ts from by
    rw [namesI_eq]
    unfold yOf nmOf
    rw [h1, h2, h12, ha, hbn]
    rfl)
  have HIN := Lib.hid (show RnSt w [.int .i64 op, .int .i64 pl, .string x, .string y, .string an, .int .i64 am, .string bn, .int .i64 bm, .slice A ts.length cap, .int .i64 tt, .bool has] [] (.slice none 0 0) (w.alloc (.cells ([.int .i64 op, .int .i64 pl, .string x, .string y, .string an, .int .i64 am, .string bn, .int .i64 bm, .slice A ts.length cap, .int .i64 tt, .bool has]).toArray 48)) from ⟨StrsAt.nil _ _, Blk.new w _ _, (Below.refl _ _).alloc (Nat.le_refl _) _⟩)
  have hl1 : ts.length ≤ 5864062014804 := by omega
  clear hT hb
  obtain ⟨rfl, rfl⟩ : D1 = true ∧ D2 = true := by simpa using h12
  go_enter Tryd.func20, Tryd.ntmps20
  go_wp2_with (at_builtin; refine wpList_append_str2 (u := y) (ss := []) (S := fun k => w.heap.size < k) rfl (.tmp 13) (.tmp 16) rfl I1 rfl (HIN.out.s.alloc (.cells #[.string y] 9)) (by first | omega | (simp; omega)) rfl (by go_simp) (by simp) ?_)
  intro v1 W1 hs1 hg1
  obtain ⟨pa1, pn1, pc1, rfl⟩ : ∃ a n c, v1 = .slice a n c := by obtain ⟨a, c, h⟩ := hs1.slice; exact ⟨a, _, c, h⟩
  have HR1 := Lib.hid ((HIN.out.alloc (.cells #[.string y] 9)).put hg1 hs1)
  clear hs1 hg1
  have c23 := HR1.out.n.cell 3
  have c24 := HR1.out.n.cell 4
  have c26 := HR1.out.n.cell 6
  simp only [List.getElem?_cons_zero, List.getElem?_cons_succ] at c23 c24 c26
  have hz2 := HR1.out.n.lt
  go_wp2_with (at_builtin; refine wpList_append_str2 (u := an) (ss := [y]) (S := fun k => w.heap.size < k) rfl (.tmp 22) (.tmp 26) rfl I1 rfl (HR1.out.s.alloc (.cells #[.string an] 9)) (by first | omega | (simp; omega)) rfl (by go_simp) (by simp) ?_)
  intro v2 W2 hs2 hg2
  obtain ⟨pa2, pn2, pc2, rfl⟩ : ∃ a n c, v2 = .slice a n c := by obtain ⟨a, c, h⟩ := hs2.slice; exact ⟨a, _, c, h⟩
  have HR2 := Lib.hid ((HR1.out.alloc (.cells #[.string an] 9)).put hg2 hs2)
  clear hs2 hg2
  clear c23 c24 c26 hz2
  have d4 := HR2.out.n.cell 4
  have d6 := HR2.out.n.cell 6
  simp only [List.getElem?_cons_zero, List.getElem?_cons_succ] at d4 d6
  have hzz := HR2.out.n.lt
  go_wp2_with fail
  go_loopg [3, 4] ts.length (fun gk v i wr => RnRel w [.int .i64 op, .int .i64 pl, .string x, .string y, .string an, .int .i64 am, .string bn, .int .i64 bm, .slice A ts.length cap, .int .i64 tt, .bool has] [y, an] ts gk v i wr)
  case atStart => exact ⟨0, by omega, by omega, rfl, by rw [List.take_zero, nmsOf, List.append_nil]; exact HR2.out⟩
  case round =>
    obtain ⟨k, hk, hgk, rfl, hst⟩ := hrel
    have HS := Lib.hid hst
    have e8 := hst.n.cell 8
    simp only [List.getElem?_cons_zero, List.getElem?_cons_succ] at e8
    have hzr := hst.n.lt
    obtain ⟨qa, qn, qc, rfl⟩ : ∃ a n c, u3 = .slice a n c := by obtain ⟨a, c, h⟩ := hst.s.slice; exact ⟨a, _, c, h⟩
    clear hst
    by_cases hlt : k < ts.length
    · obtain ⟨t, ht⟩ : ∃ t, ts[k]? = some t := ⟨ts[k], List.getElem?_eq_getElem hlt⟩
      obtain ⟨gb, off, rfl, hgb, hcell⟩ := HT.out (by omega)
      have q0 := (HS.out.b.cell (p := ⟨gb, off + k * 2, none⟩) hgb).trans (hcell k t ht).1
      have HTK := Lib.hid (nmsOf_take _ _ _ ht)
      have HPN := Lib.hid (show ([y, an] ++ nmsOf (ts.take k)).length ≤ 3 + k from by
        have h1 := nmsOf_len (ts.take k)
        have h2 : (ts.take k).length ≤ k := by simp; omega
        simp
        omega)
      obtain ⟨tn, tm⟩ := t
      clear ht hcell
      dsimp only at q0
      cases hn : (tn.toList == ([] : List UInt8)) with
      | true =>
        have hnm : nmOf ⟨tn, tm⟩ = [] := by unfold nmOf; rw [hn]; rfl
        go_wp2_with fail
        go_roundg (gk - 1)
        case measure => omega
        case rel =>
          refine ⟨k + 1, by omega, by omega, by go_num, ?_⟩
          rw [HTK.out, hnm, List.append_nil]
          exact HS.out
      | false =>
        have hnm : nmOf ⟨tn, tm⟩ = [tn] := by unfold nmOf; rw [hn]; rfl
        have hgr : gb < wr.heap.size := by have := HS.out.b.size; omega
        go_wp2_with (at_builtin; refine wpList_append_str2 (u := tn) rfl (.tmp 52) (.tmp 59) rfl I1 rfl (HS.out.s.alloc (.cells #[.string tn] 9)) ?c2 rfl ?c3 ?c4 ?_)
        case c2 => first | omega | (simp; omega)
        case c4 => have h1 := HPN.out; have h2 := HL.out; first | omega | (simp at h1 ⊢; omega)
        any_goals go_simp
        intro v' w' hs' hg'
        have HP2 := Lib.hid ((HS.out.alloc (.cells #[.string tn] 9)).put hg' hs')
        obtain ⟨a', n', c', rfl⟩ : ∃ a n c, v' = .slice a n c := by obtain ⟨a, c, h⟩ := hs'.slice; exact ⟨a, _, c, h⟩
        clear hs' hg'
        go_wp2_with fail
        go_roundg (gk - 1)
        case measure => omega
        case rel =>
          refine ⟨k + 1, by omega, by omega, by go_num, ?_⟩
          rw [HTK.out, hnm]
          first
            | exact HP2.out
            | (rw [← List.append_assoc]; exact HP2.out)
    · have hE : ts.take k = ts := List.take_of_length_le (by omega)
      have HF := Lib.hid (show RnSt w [.int .i64 op, .int .i64 pl, .string x, .string y, .string an, .int .i64 am, .string bn, .int .i64 bm, .slice A ts.length cap, .int .i64 tt, .bool has] (namesI op y (⟨an, am⟩ :: ⟨bn, bm⟩ :: ts)) _ wr from by have := HS.out; rw [hE] at this; rw [HNE.out]; exact this)
      go_wp2_with fail
      go_ret
      exact ⟨_, rfl, HF.out.s.keep fun b hb _ => ⟨Nat.le_of_lt hb, rfl⟩, HF.out.b⟩

set_option maxRecDepth 100000 in
set_option maxHeartbeats 4000000 in
theorem refNames_tft {w : World} {op pl : Int} {x y an bn : ByteArray} {am bm : Int} {A : Option Addr} {cap : Nat} {tt : Int} {has : Bool} {ts : List Tm} {D1 D2 : Bool} (hT : TmsAt w w.heap.size A ts) (hb : (ts.length + 2) * 24 ≤ 140737488355328)
    (h1 : decide (5 ≤ op) = D1) (h2 : decide (op ≤ 9) = D2) (h12 : (D1 && D2) = true) (ha : (an.toList == ([] : List UInt8)) = true) (hbn : (bn.toList == ([] : List UInt8)) = false) :
    Calls Tryd.prog 20 #[.agg #[.int .i64 op, .int .i64 pl, .string x, .string y, .string an, .int .i64 am, .string bn, .int .i64 bm, .slice A ts.length cap, .int .i64 tt, .bool has]] w fun e w' => ∃ v, e = .returned v ∧ StrsAt w' (namesI op y (⟨an, am⟩ :: ⟨bn, bm⟩ :: ts)) (fun k => w.heap.size ≤ k) v ∧ Below w.heap.size w w' := by
  obtain ⟨i1, z1, I1⟩ := Tryd.strInfo
  have HT := Lib.hid hT
  have HL := Lib.hid hb
  have HNE := Lib.hid (show namesI op y (⟨an, am⟩ :: ⟨bn, bm⟩ :: ts) = [y, bn] ++ nmsOf ts from by
    rw [namesI_eq]
    unfold yOf nmOf
    rw [h1, h2, h12, ha, hbn]
    rfl)
  have HIN := Lib.hid (show RnSt w [.int .i64 op, .int .i64 pl, .string x, .string y, .string an, .int .i64 am, .string bn, .int .i64 bm, .slice A ts.length cap, .int .i64 tt, .bool has] [] (.slice none 0 0) (w.alloc (.cells ([.int .i64 op, .int .i64 pl, .string x, .string y, .string an, .int .i64 am, .string bn, .int .i64 bm, .slice A ts.length cap, .int .i64 tt, .bool has]).toArray 48)) from ⟨StrsAt.nil _ _, Blk.new w _ _, (Below.refl _ _).alloc (Nat.le_refl _) _⟩)
  have hl1 : ts.length ≤ 5864062014804 := by omega
  clear hT hb
  obtain ⟨rfl, rfl⟩ : D1 = true ∧ D2 = true := by simpa using h12
  go_enter Tryd.func20, Tryd.ntmps20
  go_wp2_with (at_builtin; refine wpList_append_str2 (u := y) (ss := []) (S := fun k => w.heap.size < k) rfl (.tmp 13) (.tmp 16) rfl I1 rfl (HIN.out.s.alloc (.cells #[.string y] 9)) (by first | omega | (simp; omega)) rfl (by go_simp) (by simp) ?_)
  intro v1 W1 hs1 hg1
  obtain ⟨pa1, pn1, pc1, rfl⟩ : ∃ a n c, v1 = .slice a n c := by obtain ⟨a, c, h⟩ := hs1.slice; exact ⟨a, _, c, h⟩
  have HR1 := Lib.hid ((HIN.out.alloc (.cells #[.string y] 9)).put hg1 hs1)
  clear hs1 hg1
  have c23 := HR1.out.n.cell 3
  have c24 := HR1.out.n.cell 4
  have c26 := HR1.out.n.cell 6
  simp only [List.getElem?_cons_zero, List.getElem?_cons_succ] at c23 c24 c26
  have hz2 := HR1.out.n.lt
  go_wp2_with (at_builtin; refine wpList_append_str2 (u := bn) (ss := [y]) (S := fun k => w.heap.size < k) rfl (.tmp 32) (.tmp 36) rfl I1 rfl (HR1.out.s.alloc (.cells #[.string bn] 9)) (by first | omega | (simp; omega)) rfl (by go_simp) (by simp) ?_)
  intro v2 W2 hs2 hg2
  obtain ⟨pa2, pn2, pc2, rfl⟩ : ∃ a n c, v2 = .slice a n c := by obtain ⟨a, c, h⟩ := hs2.slice; exact ⟨a, _, c, h⟩
  have HR2 := Lib.hid ((HR1.out.alloc (.cells #[.string bn] 9)).put hg2 hs2)
  clear hs2 hg2
  clear c23 c24 c26 hz2
  have d4 := HR2.out.n.cell 4
  have d6 := HR2.out.n.cell 6
  simp only [List.getElem?_cons_zero, List.getElem?_cons_succ] at d4 d6
  have hzz := HR2.out.n.lt
  go_wp2_with fail
  go_loopg [3, 4] ts.length (fun gk v i wr => RnRel w [.int .i64 op, .int .i64 pl, .string x, .string y, .string an, .int .i64 am, .string bn, .int .i64 bm, .slice A ts.length cap, .int .i64 tt, .bool has] [y, bn] ts gk v i wr)
  case atStart => exact ⟨0, by omega, by omega, rfl, by rw [List.take_zero, nmsOf, List.append_nil]; exact HR2.out⟩
  case round =>
    obtain ⟨k, hk, hgk, rfl, hst⟩ := hrel
    have HS := Lib.hid hst
    have e8 := hst.n.cell 8
    simp only [List.getElem?_cons_zero, List.getElem?_cons_succ] at e8
    have hzr := hst.n.lt
    obtain ⟨qa, qn, qc, rfl⟩ : ∃ a n c, u3 = .slice a n c := by obtain ⟨a, c, h⟩ := hst.s.slice; exact ⟨a, _, c, h⟩
    clear hst
    by_cases hlt : k < ts.length
    · obtain ⟨t, ht⟩ : ∃ t, ts[k]? = some t := ⟨ts[k], List.getElem?_eq_getElem hlt⟩
      obtain ⟨gb, off, rfl, hgb, hcell⟩ := HT.out (by omega)
      have q0 := (HS.out.b.cell (p := ⟨gb, off + k * 2, none⟩) hgb).trans (hcell k t ht).1
      have HTK := Lib.hid (nmsOf_take _ _ _ ht)
      have HPN := Lib.hid (show ([y, bn] ++ nmsOf (ts.take k)).length ≤ 3 + k from by
        have h1 := nmsOf_len (ts.take k)
        have h2 : (ts.take k).length ≤ k := by simp; omega
        simp
        omega)
      obtain ⟨tn, tm⟩ := t
      clear ht hcell
      dsimp only at q0
      cases hn : (tn.toList == ([] : List UInt8)) with
      | true =>
        have hnm : nmOf ⟨tn, tm⟩ = [] := by unfold nmOf; rw [hn]; rfl
        go_wp2_with fail
        go_roundg (gk - 1)
        case measure => omega
        case rel =>
          refine ⟨k + 1, by omega, by omega, by go_num, ?_⟩
          rw [HTK.out, hnm, List.append_nil]
          exact HS.out
      | false =>
        have hnm : nmOf ⟨tn, tm⟩ = [tn] := by unfold nmOf; rw [hn]; rfl
        have hgr : gb < wr.heap.size := by have := HS.out.b.size; omega
        go_wp2_with (at_builtin; refine wpList_append_str2 (u := tn) rfl (.tmp 52) (.tmp 59) rfl I1 rfl (HS.out.s.alloc (.cells #[.string tn] 9)) ?c2 rfl ?c3 ?c4 ?_)
        case c2 => first | omega | (simp; omega)
        case c4 => have h1 := HPN.out; have h2 := HL.out; first | omega | (simp at h1 ⊢; omega)
        any_goals go_simp
        intro v' w' hs' hg'
        have HP2 := Lib.hid ((HS.out.alloc (.cells #[.string tn] 9)).put hg' hs')
        obtain ⟨a', n', c', rfl⟩ : ∃ a n c, v' = .slice a n c := by obtain ⟨a, c, h⟩ := hs'.slice; exact ⟨a, _, c, h⟩
        clear hs' hg'
        go_wp2_with fail
        go_roundg (gk - 1)
        case measure => omega
        case rel =>
          refine ⟨k + 1, by omega, by omega, by go_num, ?_⟩
          rw [HTK.out, hnm]
          first
            | exact HP2.out
            | (rw [← List.append_assoc]; exact HP2.out)
    · have hE : ts.take k = ts := List.take_of_length_le (by omega)
      have HF := Lib.hid (show RnSt w [.int .i64 op, .int .i64 pl, .string x, .string y, .string an, .int .i64 am, .string bn, .int .i64 bm, .slice A ts.length cap, .int .i64 tt, .bool has] (namesI op y (⟨an, am⟩ :: ⟨bn, bm⟩ :: ts)) _ wr from by have := HS.out; rw [hE] at this; rw [HNE.out]; exact this)
      go_wp2_with fail
      go_ret
      exact ⟨_, rfl, HF.out.s.keep fun b hb _ => ⟨Nat.le_of_lt hb, rfl⟩, HF.out.b⟩

set_option maxRecDepth 100000 in
set_option maxHeartbeats 4000000 in
theorem refNames_tff {w : World} {op pl : Int} {x y an bn : ByteArray} {am bm : Int} {A : Option Addr} {cap : Nat} {tt : Int} {has : Bool} {ts : List Tm} {D1 D2 : Bool} (hT : TmsAt w w.heap.size A ts) (hb : (ts.length + 2) * 24 ≤ 140737488355328)
    (h1 : decide (5 ≤ op) = D1) (h2 : decide (op ≤ 9) = D2) (h12 : (D1 && D2) = true) (ha : (an.toList == ([] : List UInt8)) = true) (hbn : (bn.toList == ([] : List UInt8)) = true) :
    Calls Tryd.prog 20 #[.agg #[.int .i64 op, .int .i64 pl, .string x, .string y, .string an, .int .i64 am, .string bn, .int .i64 bm, .slice A ts.length cap, .int .i64 tt, .bool has]] w fun e w' => ∃ v, e = .returned v ∧ StrsAt w' (namesI op y (⟨an, am⟩ :: ⟨bn, bm⟩ :: ts)) (fun k => w.heap.size ≤ k) v ∧ Below w.heap.size w w' := by
  obtain ⟨i1, z1, I1⟩ := Tryd.strInfo
  have HT := Lib.hid hT
  have HL := Lib.hid hb
  have HNE := Lib.hid (show namesI op y (⟨an, am⟩ :: ⟨bn, bm⟩ :: ts) = [y] ++ nmsOf ts from by
    rw [namesI_eq]
    unfold yOf nmOf
    rw [h1, h2, h12, ha, hbn]
    rfl)
  have HIN := Lib.hid (show RnSt w [.int .i64 op, .int .i64 pl, .string x, .string y, .string an, .int .i64 am, .string bn, .int .i64 bm, .slice A ts.length cap, .int .i64 tt, .bool has] [] (.slice none 0 0) (w.alloc (.cells ([.int .i64 op, .int .i64 pl, .string x, .string y, .string an, .int .i64 am, .string bn, .int .i64 bm, .slice A ts.length cap, .int .i64 tt, .bool has]).toArray 48)) from ⟨StrsAt.nil _ _, Blk.new w _ _, (Below.refl _ _).alloc (Nat.le_refl _) _⟩)
  have hl1 : ts.length ≤ 5864062014804 := by omega
  clear hT hb
  obtain ⟨rfl, rfl⟩ : D1 = true ∧ D2 = true := by simpa using h12
  go_enter Tryd.func20, Tryd.ntmps20
  go_wp2_with (at_builtin; refine wpList_append_str2 (u := y) (ss := []) (S := fun k => w.heap.size < k) rfl (.tmp 13) (.tmp 16) rfl I1 rfl (HIN.out.s.alloc (.cells #[.string y] 9)) (by first | omega | (simp; omega)) rfl (by go_simp) (by simp) ?_)
  intro v1 W1 hs1 hg1
  obtain ⟨pa1, pn1, pc1, rfl⟩ : ∃ a n c, v1 = .slice a n c := by obtain ⟨a, c, h⟩ := hs1.slice; exact ⟨a, _, c, h⟩
  have HR1 := Lib.hid ((HIN.out.alloc (.cells #[.string y] 9)).put hg1 hs1)
  clear hs1 hg1
  have d4 := HR1.out.n.cell 4
  have d6 := HR1.out.n.cell 6
  simp only [List.getElem?_cons_zero, List.getElem?_cons_succ] at d4 d6
  have hzz := HR1.out.n.lt
  go_wp2_with fail
  go_loopg [3, 4] ts.length (fun gk v i wr => RnRel w [.int .i64 op, .int .i64 pl, .string x, .string y, .string an, .int .i64 am, .string bn, .int .i64 bm, .slice A ts.length cap, .int .i64 tt, .bool has] [y] ts gk v i wr)
  case atStart => exact ⟨0, by omega, by omega, rfl, by rw [List.take_zero, nmsOf, List.append_nil]; exact HR1.out⟩
  case round =>
    obtain ⟨k, hk, hgk, rfl, hst⟩ := hrel
    have HS := Lib.hid hst
    have e8 := hst.n.cell 8
    simp only [List.getElem?_cons_zero, List.getElem?_cons_succ] at e8
    have hzr := hst.n.lt
    obtain ⟨qa, qn, qc, rfl⟩ : ∃ a n c, u3 = .slice a n c := by obtain ⟨a, c, h⟩ := hst.s.slice; exact ⟨a, _, c, h⟩
    clear hst
    by_cases hlt : k < ts.length
    · obtain ⟨t, ht⟩ : ∃ t, ts[k]? = some t := ⟨ts[k], List.getElem?_eq_getElem hlt⟩
      obtain ⟨gb, off, rfl, hgb, hcell⟩ := HT.out (by omega)
      have q0 := (HS.out.b.cell (p := ⟨gb, off + k * 2, none⟩) hgb).trans (hcell k t ht).1
      have HTK := Lib.hid (nmsOf_take _ _ _ ht)
      have HPN := Lib.hid (show ([y] ++ nmsOf (ts.take k)).length ≤ 3 + k from by
        have h1 := nmsOf_len (ts.take k)
        have h2 : (ts.take k).length ≤ k := by simp; omega
        simp
        omega)
      obtain ⟨tn, tm⟩ := t
      clear ht hcell
      dsimp only at q0
      cases hn : (tn.toList == ([] : List UInt8)) with
      | true =>
        have hnm : nmOf ⟨tn, tm⟩ = [] := by unfold nmOf; rw [hn]; rfl
        go_wp2_with fail
        go_roundg (gk - 1)
        case measure => omega
        case rel =>
          refine ⟨k + 1, by omega, by omega, by go_num, ?_⟩
          rw [HTK.out, hnm, List.append_nil]
          exact HS.out
      | false =>
        have hnm : nmOf ⟨tn, tm⟩ = [tn] := by unfold nmOf; rw [hn]; rfl
        have hgr : gb < wr.heap.size := by have := HS.out.b.size; omega
        go_wp2_with (at_builtin; refine wpList_append_str2 (u := tn) rfl (.tmp 52) (.tmp 59) rfl I1 rfl (HS.out.s.alloc (.cells #[.string tn] 9)) ?c2 rfl ?c3 ?c4 ?_)
        case c2 => first | omega | (simp; omega)
        case c4 => have h1 := HPN.out; have h2 := HL.out; first | omega | (simp at h1 ⊢; omega)
        any_goals go_simp
        intro v' w' hs' hg'
        have HP2 := Lib.hid ((HS.out.alloc (.cells #[.string tn] 9)).put hg' hs')
        obtain ⟨a', n', c', rfl⟩ : ∃ a n c, v' = .slice a n c := by obtain ⟨a, c, h⟩ := hs'.slice; exact ⟨a, _, c, h⟩
        clear hs' hg'
        go_wp2_with fail
        go_roundg (gk - 1)
        case measure => omega
        case rel =>
          refine ⟨k + 1, by omega, by omega, by go_num, ?_⟩
          rw [HTK.out, hnm]
          first
            | exact HP2.out
            | (rw [← List.append_assoc]; exact HP2.out)
    · have hE : ts.take k = ts := List.take_of_length_le (by omega)
      have HF := Lib.hid (show RnSt w [.int .i64 op, .int .i64 pl, .string x, .string y, .string an, .int .i64 am, .string bn, .int .i64 bm, .slice A ts.length cap, .int .i64 tt, .bool has] (namesI op y (⟨an, am⟩ :: ⟨bn, bm⟩ :: ts)) _ wr from by have := HS.out; rw [hE] at this; rw [HNE.out]; exact this)
      go_wp2_with fail
      go_ret
      exact ⟨_, rfl, HF.out.s.keep fun b hb _ => ⟨Nat.le_of_lt hb, rfl⟩, HF.out.b⟩

end Go.Proofs.YtnmpfpnldcgbaaaDoor
