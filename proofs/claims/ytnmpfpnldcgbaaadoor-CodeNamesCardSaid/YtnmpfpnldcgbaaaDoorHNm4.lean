/- The contract of code.Names, of a Lock, an Unlock and all others. -/
import Derived.Test.YtnmpfpnldcgbaaaDoorHNm2
namespace Go.Proofs.YtnmpfpnldcgbaaaDoor
open Go.RowKit

set_option maxRecDepth 100000 in
set_option maxHeartbeats 4000000 in
theorem codeNames_8 {w : World} {pl : Int} {x y : ByteArray} {a b : Tm} {A : Option Addr} {cap : Nat} {tt : Int} {has : Bool} {ts : List Tm} (hT : TmsAt w w.heap.size A ts) (hb : (ts.length + 2) * 24 ≤ 140737488355328) :
    Calls Tryd.prog 19 #[InstrV 8 pl x y a b (.slice A ts.length cap) tt has] w fun e w' => ∃ v, e = .returned v ∧ StrsAt w' (namesI 8 y (a :: b :: ts)) (fun k => w.heap.size ≤ k) v ∧ Below w.heap.size w w' := by
  obtain ⟨i1, z1, I1⟩ := Tryd.strInfo
  obtain ⟨i2, z2, I2⟩ := Tryd.termInfo
  have HT := Lib.hid hT
  have HL := Lib.hid hb
  have HIN := Lib.hid (Blk.new w (instrCells 8 pl x y a b (.slice A ts.length cap) tt has) 43)
  have HB0 := Lib.hid ((Below.refl w.heap.size w).alloc (Nat.le_refl _) (.cells (instrCells 8 pl x y a b (.slice A ts.length cap) tt has).toArray 43))
  have hl1 : ts.length ≤ 5864062014804 := by omega
  clear hT hb
  have HY := Lib.hid (show yOf 8 y = [y] from rfl)
  unfold InstrV
  unfold instrCells at HIN HB0
  go_enter Tryd.func19, Tryd.ntmps19
  go_wp2_with (at_builtin; refine wpList_append_str2 (u := y) (ss := []) (S := fun k => w.heap.size ≤ k) rfl (.tmp 14) (.tmp 17) rfl I1 rfl (StrsAt.nil _ _) ?c2 rfl ?c3 ?c4 ?_)
  case c2 => simp; omega
  case c3 => go_simp
  case c4 => simp
  intro vY W9 hs9 hg9
  have HN9 := Lib.hid ((HIN.out.alloc (.cells #[.string y] 9)).grown hg9 (by simp [Value.ownBlock]))
  have HB9 := Lib.hid (show Below w.heap.size w W9 from by
    have hB1 := HB0.out.alloc HB0.out.size (.cells #[.string y] 9)
    exact ⟨hg9.os.trans hB1.os, hg9.tape.trans hB1.tape, hg9.output.trans hB1.output, Nat.le_trans hB1.size hg9.size, fun k hk => (hg9.block k (Nat.lt_of_lt_of_le hk hB1.size) (by simp [Value.ownBlock])).trans (hB1.block k hk)⟩)
  have HS9 := Lib.hid (show StrsAt W9 (yOf 8 y) (fun k => w.heap.size ≤ k) vY from by rw [HY.out]; exact hs9)
  obtain ⟨pa, pn, pc, rfl⟩ : ∃ a n c, vY = .slice a n c := by obtain ⟨a, c, h⟩ := hs9.slice; exact ⟨a, _, c, h⟩
  clear hs9 hg9
  clear HIN HB0
  have c8 := HN9.out.cell 8
  simp only [List.getElem?_cons_zero, List.getElem?_cons_succ] at c8
  have hz9 := HN9.out.lt
  have HA4 := Lib.hid (show World.rangeAt _ w.heap.size 4 (tmCells a) from fun j v hj => by
    rcases j with _ | _ | j
    · cases hj; exact HN9.out.cell 4
    · cases hj; exact HN9.out.cell 5
    · simp [tmCells] at hj)
  have HB4 := Lib.hid (show World.rangeAt _ w.heap.size 6 (tmCells b) from fun j v hj => by
    rcases j with _ | _ | j
    · cases hj; exact HN9.out.cell 6
    · cases hj; exact HN9.out.cell 7
    · simp [tmCells] at hj)
  have c8n := (HN9.out.alloc (.cells (tmsCells [a, b]).toArray 40)).cell 8
  simp only [List.getElem?_cons_zero, List.getElem?_cons_succ] at c8n
  go_wp2_with (first
    | ((with_reducible refine at_ld 40 (.tmp 19) ?_); refine wpList_load_mid rfl 40 (.tmp 19) rfl w.heap.size 4 rfl [.string a.name, .int .i64 a.num] _ HA4.out Tryd.underlying40 rfl Tryd.sizeTerm ?_)
    | ((with_reducible refine at_ld 40 (.tmp 21) ?_); refine wpList_load_mid rfl 40 (.tmp 21) rfl w.heap.size 6 rfl [.string b.name, .int .i64 b.num] _ HB4.out Tryd.underlying40 rfl Tryd.sizeTerm ?_)
    | (at_builtin; refine wpList_append_tms (ts := [a, b]) (us := ts) (B := w.heap.size) rfl (.tmp 23) (.tmp 25) rfl I2 rfl (two_own W9 a b (g := W9.heap.size) (by first | rfl | simp)) rfl (HT.out.below (HB9.out.alloc HB9.out.size _) (Nat.le_refl _)) ?d1 ?d2 ?d3 ?_))
  case d1 => unfold maxLen; omega
  case d2 => have := HL.out; omega
  case d3 => simp
  intro V W1 hoV hgV
  obtain ⟨g, c, rfl, hc, hst, hcell⟩ := nm_start HS9.out HB9.out (by first | rfl | simp) hoV hgV
  have HST := Lib.hid hst
  have HC := Lib.hid hcell
  clear hst hcell hoV hgV HA4 HB4 HN9 HB9 HS9
  have HLL := Lib.hid (show (a :: b :: ts).length = 2 + ts.length by simp; omega)
  have hob : W1.heap[g]? = W1.heap[g]? := rfl
  go_wp2_with fail
  go_loopg [3, 28] (2 + ts.length) (fun gk v i wr => NmRel w g W1.heap[g]? (yOf 8 y) (a :: b :: ts) gk v i wr)
  case atStart => exact ⟨0, by omega, by have := HLL.out; omega, rfl, by rw [List.take_zero, nmsOf, List.append_nil]; exact HST.out⟩
  case round =>
    obtain ⟨k, hk, hgk, rfl, hst⟩ := hrel
    have HS := Lib.hid hst
    have hgz := hst.lt
    rw [HLL.out] at hk hgk
    obtain ⟨qa, qn, qc, rfl⟩ : ∃ a n c, u3 = .slice a n c := by obtain ⟨a, c, h⟩ := hst.s.slice; exact ⟨a, _, c, h⟩
    clear hst
    by_cases hlt : k < 2 + ts.length
    · obtain ⟨t, ht⟩ : ∃ t, (a :: b :: ts)[k]? = some t := ⟨(a :: b :: ts)[k]'(by rw [HLL.out]; exact hlt), List.getElem?_eq_getElem _⟩
      obtain ⟨q0, q1⟩ := HC.out _ HS.out.row k t ht
      have HTK := Lib.hid (nmsOf_take _ _ _ ht)
      have HRG := Lib.hid (show wr.rangeAt g (k * 2) (tmCells t) from fun j v hj => by
        rcases j with _ | _ | j
        · cases hj; exact q0
        · cases hj; exact q1
        · simp [tmCells] at hj)
      have hone : ∀ u ∈ tmCells t, u.oneCell' = true := fun u hu => by simp only [tmCells, List.mem_cons, List.not_mem_nil, or_false] at hu; rcases hu with rfl | rfl <;> rfl
      have HPN := Lib.hid (show (yOf 8 y ++ nmsOf ((a :: b :: ts).take k)).length ≤ 1 + k from by
        have h1 := namesI_len 8 y ((a :: b :: ts).take k)
        unfold namesI at h1
        have h2 : ((a :: b :: ts).take k).length ≤ k := by simp; omega
        omega)
      have HSA := Lib.hid (HS.out.alloc (.cells [.string t.name, .int .i64 t.num].toArray 40))
      obtain ⟨tn, tm⟩ := t
      clear q0 q1 ht
      cases hn : (tn.toList == ([] : List UInt8)) with
      | true =>
        have hnm : nmOf ⟨tn, tm⟩ = [] := by unfold nmOf; rw [hn]; rfl
        go_wp2_with (first
          | ((with_reducible refine at_ld 40 (.tmp 30) ?_); refine wpList_load_mid rfl 40 (.tmp 30) rfl g (k * 2) rfl [.string tn, .int .i64 tm] _ HRG.out Tryd.underlying40 rfl Tryd.sizeTerm ?_)
          | ((with_reducible refine at_st 40 (.tmp 5) ?_); refine wpList_store_new rfl 40 (.tmp 5) (.tmp 31) rfl [.string tn, .int .i64 tm] (old := [.string ⟨#[]⟩, .int .i64 0]) rfl rfl Tryd.sizeTerm rfl hone ?_))
        go_roundg (gk - 1)
        case measure => omega
        case rel =>
          refine ⟨k + 1, by rw [HLL.out]; omega, by rw [HLL.out]; omega, by go_num, ?_⟩
          rw [HTK.out, hnm, List.append_nil]
          exact HSA.out
      | false =>
        have hnm : nmOf ⟨tn, tm⟩ = [tn] := by unfold nmOf; rw [hn]; rfl
        go_wp2_with (first
          | ((with_reducible refine at_ld 40 (.tmp 30) ?_); refine wpList_load_mid rfl 40 (.tmp 30) rfl g (k * 2) rfl [.string tn, .int .i64 tm] _ HRG.out Tryd.underlying40 rfl Tryd.sizeTerm ?_)
          | ((with_reducible refine at_st 40 (.tmp 5) ?_); refine wpList_store_new rfl 40 (.tmp 5) (.tmp 31) rfl [.string tn, .int .i64 tm] (old := [.string ⟨#[]⟩, .int .i64 0]) rfl rfl Tryd.sizeTerm rfl hone ?_)
          | (at_builtin; refine wpList_append_str2 (u := tn) rfl (.tmp 35) (.tmp 38) rfl I1 rfl (HSA.out.s.alloc (.cells #[.string tn] 9)) ?c2 rfl ?c3 ?c4 ?_))
        case c2 => have h1 := HS.out.b.size; exact ⟨by first | omega | (simp; omega), by first | omega | (simp; omega)⟩
        case c4 => have h1 := HPN.out; have h2 := HL.out; rw [List.length_append] at h1; first | omega | (rw [List.length_append]; omega)
        intro v' w' hs' hg'
        have HP2 := Lib.hid ((HSA.out.alloc (.cells #[.string tn] 9)).put hg' hs')
        obtain ⟨a', n', c', rfl⟩ : ∃ a n c, v' = .slice a n c := by obtain ⟨a, c, h⟩ := hs'.slice; exact ⟨a, _, c, h⟩
        clear hs' hg'
        go_wp2_with fail
        go_roundg (gk - 1)
        case measure => omega
        case rel =>
          refine ⟨k + 1, by rw [HLL.out]; omega, by rw [HLL.out]; omega, by go_num, ?_⟩
          rw [HTK.out, hnm]
          first
            | exact HP2.out
            | (rw [← List.append_assoc]; exact HP2.out)
    · have hE : (a :: b :: ts).take k = a :: b :: ts := List.take_of_length_le (by rw [HLL.out]; omega)
      have HF := Lib.hid (show NmSt w g W1.heap[g]? (namesI 8 y (a :: b :: ts)) _ wr from by have := HS.out; rwa [hE] at this)
      go_wp2_with fail
      go_ret
      exact ⟨_, rfl, HF.out.s.keep fun b hb _ => ⟨hb.1, rfl⟩, HF.out.b⟩

set_option maxRecDepth 100000 in
set_option maxHeartbeats 4000000 in
theorem codeNames_9 {w : World} {pl : Int} {x y : ByteArray} {a b : Tm} {A : Option Addr} {cap : Nat} {tt : Int} {has : Bool} {ts : List Tm} (hT : TmsAt w w.heap.size A ts) (hb : (ts.length + 2) * 24 ≤ 140737488355328) :
    Calls Tryd.prog 19 #[InstrV 9 pl x y a b (.slice A ts.length cap) tt has] w fun e w' => ∃ v, e = .returned v ∧ StrsAt w' (namesI 9 y (a :: b :: ts)) (fun k => w.heap.size ≤ k) v ∧ Below w.heap.size w w' := by
  obtain ⟨i1, z1, I1⟩ := Tryd.strInfo
  obtain ⟨i2, z2, I2⟩ := Tryd.termInfo
  have HT := Lib.hid hT
  have HL := Lib.hid hb
  have HIN := Lib.hid (Blk.new w (instrCells 9 pl x y a b (.slice A ts.length cap) tt has) 43)
  have HB0 := Lib.hid ((Below.refl w.heap.size w).alloc (Nat.le_refl _) (.cells (instrCells 9 pl x y a b (.slice A ts.length cap) tt has).toArray 43))
  have hl1 : ts.length ≤ 5864062014804 := by omega
  clear hT hb
  have HY := Lib.hid (show yOf 9 y = [y] from rfl)
  unfold InstrV
  unfold instrCells at HIN HB0
  go_enter Tryd.func19, Tryd.ntmps19
  go_wp2_with (at_builtin; refine wpList_append_str2 (u := y) (ss := []) (S := fun k => w.heap.size ≤ k) rfl (.tmp 14) (.tmp 17) rfl I1 rfl (StrsAt.nil _ _) ?c2 rfl ?c3 ?c4 ?_)
  case c2 => simp; omega
  case c3 => go_simp
  case c4 => simp
  intro vY W9 hs9 hg9
  have HN9 := Lib.hid ((HIN.out.alloc (.cells #[.string y] 9)).grown hg9 (by simp [Value.ownBlock]))
  have HB9 := Lib.hid (show Below w.heap.size w W9 from by
    have hB1 := HB0.out.alloc HB0.out.size (.cells #[.string y] 9)
    exact ⟨hg9.os.trans hB1.os, hg9.tape.trans hB1.tape, hg9.output.trans hB1.output, Nat.le_trans hB1.size hg9.size, fun k hk => (hg9.block k (Nat.lt_of_lt_of_le hk hB1.size) (by simp [Value.ownBlock])).trans (hB1.block k hk)⟩)
  have HS9 := Lib.hid (show StrsAt W9 (yOf 9 y) (fun k => w.heap.size ≤ k) vY from by rw [HY.out]; exact hs9)
  obtain ⟨pa, pn, pc, rfl⟩ : ∃ a n c, vY = .slice a n c := by obtain ⟨a, c, h⟩ := hs9.slice; exact ⟨a, _, c, h⟩
  clear hs9 hg9
  clear HIN HB0
  have c8 := HN9.out.cell 8
  simp only [List.getElem?_cons_zero, List.getElem?_cons_succ] at c8
  have hz9 := HN9.out.lt
  have HA4 := Lib.hid (show World.rangeAt _ w.heap.size 4 (tmCells a) from fun j v hj => by
    rcases j with _ | _ | j
    · cases hj; exact HN9.out.cell 4
    · cases hj; exact HN9.out.cell 5
    · simp [tmCells] at hj)
  have HB4 := Lib.hid (show World.rangeAt _ w.heap.size 6 (tmCells b) from fun j v hj => by
    rcases j with _ | _ | j
    · cases hj; exact HN9.out.cell 6
    · cases hj; exact HN9.out.cell 7
    · simp [tmCells] at hj)
  have c8n := (HN9.out.alloc (.cells (tmsCells [a, b]).toArray 40)).cell 8
  simp only [List.getElem?_cons_zero, List.getElem?_cons_succ] at c8n
  go_wp2_with (first
    | ((with_reducible refine at_ld 40 (.tmp 19) ?_); refine wpList_load_mid rfl 40 (.tmp 19) rfl w.heap.size 4 rfl [.string a.name, .int .i64 a.num] _ HA4.out Tryd.underlying40 rfl Tryd.sizeTerm ?_)
    | ((with_reducible refine at_ld 40 (.tmp 21) ?_); refine wpList_load_mid rfl 40 (.tmp 21) rfl w.heap.size 6 rfl [.string b.name, .int .i64 b.num] _ HB4.out Tryd.underlying40 rfl Tryd.sizeTerm ?_)
    | (at_builtin; refine wpList_append_tms (ts := [a, b]) (us := ts) (B := w.heap.size) rfl (.tmp 23) (.tmp 25) rfl I2 rfl (two_own W9 a b (g := W9.heap.size) (by first | rfl | simp)) rfl (HT.out.below (HB9.out.alloc HB9.out.size _) (Nat.le_refl _)) ?d1 ?d2 ?d3 ?_))
  case d1 => unfold maxLen; omega
  case d2 => have := HL.out; omega
  case d3 => simp
  intro V W1 hoV hgV
  obtain ⟨g, c, rfl, hc, hst, hcell⟩ := nm_start HS9.out HB9.out (by first | rfl | simp) hoV hgV
  have HST := Lib.hid hst
  have HC := Lib.hid hcell
  clear hst hcell hoV hgV HA4 HB4 HN9 HB9 HS9
  have HLL := Lib.hid (show (a :: b :: ts).length = 2 + ts.length by simp; omega)
  have hob : W1.heap[g]? = W1.heap[g]? := rfl
  go_wp2_with fail
  go_loopg [3, 28] (2 + ts.length) (fun gk v i wr => NmRel w g W1.heap[g]? (yOf 9 y) (a :: b :: ts) gk v i wr)
  case atStart => exact ⟨0, by omega, by have := HLL.out; omega, rfl, by rw [List.take_zero, nmsOf, List.append_nil]; exact HST.out⟩
  case round =>
    obtain ⟨k, hk, hgk, rfl, hst⟩ := hrel
    have HS := Lib.hid hst
    have hgz := hst.lt
    rw [HLL.out] at hk hgk
    obtain ⟨qa, qn, qc, rfl⟩ : ∃ a n c, u3 = .slice a n c := by obtain ⟨a, c, h⟩ := hst.s.slice; exact ⟨a, _, c, h⟩
    clear hst
    by_cases hlt : k < 2 + ts.length
    · obtain ⟨t, ht⟩ : ∃ t, (a :: b :: ts)[k]? = some t := ⟨(a :: b :: ts)[k]'(by rw [HLL.out]; exact hlt), List.getElem?_eq_getElem _⟩
      obtain ⟨q0, q1⟩ := HC.out _ HS.out.row k t ht
      have HTK := Lib.hid (nmsOf_take _ _ _ ht)
      have HRG := Lib.hid (show wr.rangeAt g (k * 2) (tmCells t) from fun j v hj => by
        rcases j with _ | _ | j
        · cases hj; exact q0
        · cases hj; exact q1
        · simp [tmCells] at hj)
      have hone : ∀ u ∈ tmCells t, u.oneCell' = true := fun u hu => by simp only [tmCells, List.mem_cons, List.not_mem_nil, or_false] at hu; rcases hu with rfl | rfl <;> rfl
      have HPN := Lib.hid (show (yOf 9 y ++ nmsOf ((a :: b :: ts).take k)).length ≤ 1 + k from by
        have h1 := namesI_len 9 y ((a :: b :: ts).take k)
        unfold namesI at h1
        have h2 : ((a :: b :: ts).take k).length ≤ k := by simp; omega
        omega)
      have HSA := Lib.hid (HS.out.alloc (.cells [.string t.name, .int .i64 t.num].toArray 40))
      obtain ⟨tn, tm⟩ := t
      clear q0 q1 ht
      cases hn : (tn.toList == ([] : List UInt8)) with
      | true =>
        have hnm : nmOf ⟨tn, tm⟩ = [] := by unfold nmOf; rw [hn]; rfl
        go_wp2_with (first
          | ((with_reducible refine at_ld 40 (.tmp 30) ?_); refine wpList_load_mid rfl 40 (.tmp 30) rfl g (k * 2) rfl [.string tn, .int .i64 tm] _ HRG.out Tryd.underlying40 rfl Tryd.sizeTerm ?_)
          | ((with_reducible refine at_st 40 (.tmp 5) ?_); refine wpList_store_new rfl 40 (.tmp 5) (.tmp 31) rfl [.string tn, .int .i64 tm] (old := [.string ⟨#[]⟩, .int .i64 0]) rfl rfl Tryd.sizeTerm rfl hone ?_))
        go_roundg (gk - 1)
        case measure => omega
        case rel =>
          refine ⟨k + 1, by rw [HLL.out]; omega, by rw [HLL.out]; omega, by go_num, ?_⟩
          rw [HTK.out, hnm, List.append_nil]
          exact HSA.out
      | false =>
        have hnm : nmOf ⟨tn, tm⟩ = [tn] := by unfold nmOf; rw [hn]; rfl
        go_wp2_with (first
          | ((with_reducible refine at_ld 40 (.tmp 30) ?_); refine wpList_load_mid rfl 40 (.tmp 30) rfl g (k * 2) rfl [.string tn, .int .i64 tm] _ HRG.out Tryd.underlying40 rfl Tryd.sizeTerm ?_)
          | ((with_reducible refine at_st 40 (.tmp 5) ?_); refine wpList_store_new rfl 40 (.tmp 5) (.tmp 31) rfl [.string tn, .int .i64 tm] (old := [.string ⟨#[]⟩, .int .i64 0]) rfl rfl Tryd.sizeTerm rfl hone ?_)
          | (at_builtin; refine wpList_append_str2 (u := tn) rfl (.tmp 35) (.tmp 38) rfl I1 rfl (HSA.out.s.alloc (.cells #[.string tn] 9)) ?c2 rfl ?c3 ?c4 ?_))
        case c2 => have h1 := HS.out.b.size; exact ⟨by first | omega | (simp; omega), by first | omega | (simp; omega)⟩
        case c4 => have h1 := HPN.out; have h2 := HL.out; rw [List.length_append] at h1; first | omega | (rw [List.length_append]; omega)
        intro v' w' hs' hg'
        have HP2 := Lib.hid ((HSA.out.alloc (.cells #[.string tn] 9)).put hg' hs')
        obtain ⟨a', n', c', rfl⟩ : ∃ a n c, v' = .slice a n c := by obtain ⟨a, c, h⟩ := hs'.slice; exact ⟨a, _, c, h⟩
        clear hs' hg'
        go_wp2_with fail
        go_roundg (gk - 1)
        case measure => omega
        case rel =>
          refine ⟨k + 1, by rw [HLL.out]; omega, by rw [HLL.out]; omega, by go_num, ?_⟩
          rw [HTK.out, hnm]
          first
            | exact HP2.out
            | (rw [← List.append_assoc]; exact HP2.out)
    · have hE : (a :: b :: ts).take k = a :: b :: ts := List.take_of_length_le (by rw [HLL.out]; omega)
      have HF := Lib.hid (show NmSt w g W1.heap[g]? (namesI 9 y (a :: b :: ts)) _ wr from by have := HS.out; rwa [hE] at this)
      go_wp2_with fail
      go_ret
      exact ⟨_, rfl, HF.out.s.keep fun b hb _ => ⟨hb.1, rfl⟩, HF.out.b⟩

set_option maxRecDepth 100000 in
set_option maxHeartbeats 4000000 in
theorem codeNames_n {w : World} {op pl : Int} {x y : ByteArray} {a b : Tm} {A : Option Addr} {cap : Nat} {tt : Int} {has : Bool} {ts : List Tm} (hT : TmsAt w w.heap.size A ts) (hb : (ts.length + 2) * 24 ≤ 140737488355328) (b5 : (op == 5) = false) (b6 : (op == 6) = false) (b7 : (op == 7) = false) (b8 : (op == 8) = false) (b9 : (op == 9) = false) (hy : yOf op y = []) :
    Calls Tryd.prog 19 #[InstrV op pl x y a b (.slice A ts.length cap) tt has] w fun e w' => ∃ v, e = .returned v ∧ StrsAt w' (namesI op y (a :: b :: ts)) (fun k => w.heap.size ≤ k) v ∧ Below w.heap.size w w' := by
  obtain ⟨i1, z1, I1⟩ := Tryd.strInfo
  obtain ⟨i2, z2, I2⟩ := Tryd.termInfo
  have HT := Lib.hid hT
  have HL := Lib.hid hb
  have HIN := Lib.hid (Blk.new w (instrCells op pl x y a b (.slice A ts.length cap) tt has) 43)
  have HB0 := Lib.hid ((Below.refl w.heap.size w).alloc (Nat.le_refl _) (.cells (instrCells op pl x y a b (.slice A ts.length cap) tt has).toArray 43))
  have hl1 : ts.length ≤ 5864062014804 := by omega
  clear hT hb
  have HY := Lib.hid hy
  clear hy
  unfold InstrV
  unfold instrCells at HIN HB0
  go_enter Tryd.func19, Tryd.ntmps19
  have HS9 := Lib.hid (show StrsAt (w.alloc (.cells [.int .i64 op, .int .i64 pl, .string x, .string y, .string a.name, .int .i64 a.num, .string b.name, .int .i64 b.num, .slice A ts.length cap, .int .i64 tt, .bool has].toArray 43)) (yOf op y) (fun k => w.heap.size ≤ k) (.slice none 0 0) from by rw [HY.out]; exact StrsAt.nil _ _)
  have HN9 := HIN
  have HB9 := HB0
  clear HIN HB0
  have HA4 := Lib.hid (show World.rangeAt _ w.heap.size 4 (tmCells a) from fun j v hj => by
    rcases j with _ | _ | j
    · cases hj; exact HN9.out.cell 4
    · cases hj; exact HN9.out.cell 5
    · simp [tmCells] at hj)
  have HB4 := Lib.hid (show World.rangeAt _ w.heap.size 6 (tmCells b) from fun j v hj => by
    rcases j with _ | _ | j
    · cases hj; exact HN9.out.cell 6
    · cases hj; exact HN9.out.cell 7
    · simp [tmCells] at hj)
  go_wp2_with (first
    | ((with_reducible refine at_ld 40 (.tmp 19) ?_); refine wpList_load_mid rfl 40 (.tmp 19) rfl w.heap.size 4 rfl [.string a.name, .int .i64 a.num] _ HA4.out Tryd.underlying40 rfl Tryd.sizeTerm ?_)
    | ((with_reducible refine at_ld 40 (.tmp 21) ?_); refine wpList_load_mid rfl 40 (.tmp 21) rfl w.heap.size 6 rfl [.string b.name, .int .i64 b.num] _ HB4.out Tryd.underlying40 rfl Tryd.sizeTerm ?_)
    | (at_builtin; refine wpList_append_tms (ts := [a, b]) (us := ts) (B := w.heap.size) rfl (.tmp 23) (.tmp 25) rfl I2 rfl (two_own (w.alloc (.cells [.int .i64 op, .int .i64 pl, .string x, .string y, .string a.name, .int .i64 a.num, .string b.name, .int .i64 b.num, .slice A ts.length cap, .int .i64 tt, .bool has].toArray 43)) a b (g := w.heap.size + 1) (by first | rfl | simp)) rfl (HT.out.below (HB9.out.alloc HB9.out.size _) (Nat.le_refl _)) ?d1 ?d2 ?d3 ?_))
  case d1 => unfold maxLen; omega
  case d2 => have := HL.out; omega
  case d3 => simp
  intro V W1 hoV hgV
  obtain ⟨g, c, rfl, hc, hst, hcell⟩ := nm_start HS9.out HB9.out (by first | rfl | simp) hoV hgV
  have HST := Lib.hid hst
  have HC := Lib.hid hcell
  clear hst hcell hoV hgV HA4 HB4 HN9 HB9 HS9
  have HLL := Lib.hid (show (a :: b :: ts).length = 2 + ts.length by simp; omega)
  have hob : W1.heap[g]? = W1.heap[g]? := rfl
  go_wp2_with fail
  go_loopg [3, 28] (2 + ts.length) (fun gk v i wr => NmRel w g W1.heap[g]? (yOf op y) (a :: b :: ts) gk v i wr)
  case atStart => exact ⟨0, by omega, by have := HLL.out; omega, rfl, by rw [List.take_zero, nmsOf, List.append_nil]; exact HST.out⟩
  case round =>
    obtain ⟨k, hk, hgk, rfl, hst⟩ := hrel
    have HS := Lib.hid hst
    have hgz := hst.lt
    rw [HLL.out] at hk hgk
    obtain ⟨qa, qn, qc, rfl⟩ : ∃ a n c, u3 = .slice a n c := by obtain ⟨a, c, h⟩ := hst.s.slice; exact ⟨a, _, c, h⟩
    clear hst
    by_cases hlt : k < 2 + ts.length
    · obtain ⟨t, ht⟩ : ∃ t, (a :: b :: ts)[k]? = some t := ⟨(a :: b :: ts)[k]'(by rw [HLL.out]; exact hlt), List.getElem?_eq_getElem _⟩
      obtain ⟨q0, q1⟩ := HC.out _ HS.out.row k t ht
      have HTK := Lib.hid (nmsOf_take _ _ _ ht)
      have HRG := Lib.hid (show wr.rangeAt g (k * 2) (tmCells t) from fun j v hj => by
        rcases j with _ | _ | j
        · cases hj; exact q0
        · cases hj; exact q1
        · simp [tmCells] at hj)
      have hone : ∀ u ∈ tmCells t, u.oneCell' = true := fun u hu => by simp only [tmCells, List.mem_cons, List.not_mem_nil, or_false] at hu; rcases hu with rfl | rfl <;> rfl
      have HPN := Lib.hid (show (yOf op y ++ nmsOf ((a :: b :: ts).take k)).length ≤ 1 + k from by
        have h1 := namesI_len op y ((a :: b :: ts).take k)
        unfold namesI at h1
        have h2 : ((a :: b :: ts).take k).length ≤ k := by simp; omega
        omega)
      have HSA := Lib.hid (HS.out.alloc (.cells [.string t.name, .int .i64 t.num].toArray 40))
      obtain ⟨tn, tm⟩ := t
      clear q0 q1 ht
      cases hn : (tn.toList == ([] : List UInt8)) with
      | true =>
        have hnm : nmOf ⟨tn, tm⟩ = [] := by unfold nmOf; rw [hn]; rfl
        go_wp2_with (first
          | ((with_reducible refine at_ld 40 (.tmp 30) ?_); refine wpList_load_mid rfl 40 (.tmp 30) rfl g (k * 2) rfl [.string tn, .int .i64 tm] _ HRG.out Tryd.underlying40 rfl Tryd.sizeTerm ?_)
          | ((with_reducible refine at_st 40 (.tmp 5) ?_); refine wpList_store_new rfl 40 (.tmp 5) (.tmp 31) rfl [.string tn, .int .i64 tm] (old := [.string ⟨#[]⟩, .int .i64 0]) rfl rfl Tryd.sizeTerm rfl hone ?_))
        go_roundg (gk - 1)
        case measure => omega
        case rel =>
          refine ⟨k + 1, by rw [HLL.out]; omega, by rw [HLL.out]; omega, by go_num, ?_⟩
          rw [HTK.out, hnm, List.append_nil]
          exact HSA.out
      | false =>
        have hnm : nmOf ⟨tn, tm⟩ = [tn] := by unfold nmOf; rw [hn]; rfl
        go_wp2_with (first
          | ((with_reducible refine at_ld 40 (.tmp 30) ?_); refine wpList_load_mid rfl 40 (.tmp 30) rfl g (k * 2) rfl [.string tn, .int .i64 tm] _ HRG.out Tryd.underlying40 rfl Tryd.sizeTerm ?_)
          | ((with_reducible refine at_st 40 (.tmp 5) ?_); refine wpList_store_new rfl 40 (.tmp 5) (.tmp 31) rfl [.string tn, .int .i64 tm] (old := [.string ⟨#[]⟩, .int .i64 0]) rfl rfl Tryd.sizeTerm rfl hone ?_)
          | (at_builtin; refine wpList_append_str2 (u := tn) rfl (.tmp 35) (.tmp 38) rfl I1 rfl (HSA.out.s.alloc (.cells #[.string tn] 9)) ?c2 rfl ?c3 ?c4 ?_))
        case c2 => have h1 := HS.out.b.size; exact ⟨by first | omega | (simp; omega), by first | omega | (simp; omega)⟩
        case c4 => have h1 := HPN.out; have h2 := HL.out; rw [List.length_append] at h1; first | omega | (rw [List.length_append]; omega)
        intro v' w' hs' hg'
        have HP2 := Lib.hid ((HSA.out.alloc (.cells #[.string tn] 9)).put hg' hs')
        obtain ⟨a', n', c', rfl⟩ : ∃ a n c, v' = .slice a n c := by obtain ⟨a, c, h⟩ := hs'.slice; exact ⟨a, _, c, h⟩
        clear hs' hg'
        go_wp2_with fail
        go_roundg (gk - 1)
        case measure => omega
        case rel =>
          refine ⟨k + 1, by rw [HLL.out]; omega, by rw [HLL.out]; omega, by go_num, ?_⟩
          rw [HTK.out, hnm]
          first
            | exact HP2.out
            | (rw [← List.append_assoc]; exact HP2.out)
    · have hE : (a :: b :: ts).take k = a :: b :: ts := List.take_of_length_le (by rw [HLL.out]; omega)
      have HF := Lib.hid (show NmSt w g W1.heap[g]? (namesI op y (a :: b :: ts)) _ wr from by have := HS.out; rwa [hE] at this)
      go_wp2_with fail
      go_ret
      exact ⟨_, rfl, HF.out.s.keep fun b hb _ => ⟨hb.1, rfl⟩, HF.out.b⟩

end Go.Proofs.YtnmpfpnldcgbaaaDoor
