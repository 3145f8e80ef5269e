/- syntax.Parse where the tokens are read. -/
import Derived.Test.YtnlblacpeddciaaDoorParse0
namespace Go.Proofs.YtnlblacpeddciaaDoor
open Go.RowKit

/- The world spelled otherwise. -/
theorem at_world {P : Program} {ops : Array Oper} {Q : Exit → Act → World → Prop} {l : List Oper} {a : Act} (W : World) (h : wpList P ops Q l a W) : wpList P ops Q l a W := h

set_option maxRecDepth 100000 in
set_option maxHeartbeats 2000000 in
theorem parse_ok (s : ByteArray) (w : World) (hs : s.size ≤ maxLen) (ht : Tabs w) {ts l' : List Tok} {t : T} (hr : lexAll s = .ok ts) (hu : unitP ts = .ok (t, l')) :
    Calls Tryd.prog 10 #[.string s] w (ParsePost (parseB s) w) := by
  have HTA := Lib.hid (ht.alloc (o := .cells zeroNodeCells.toArray 25))
  have HS := Lib.hid hs
  clear ht hs
  go_enter Tryd.func10, Tryd.ntmps10
  go_wp2_with fail
  refine (tokens_any s _ HS.out HTA.out).mono ?_
  intro e w1 hp
  rw [hr] at hp
  obtain ⟨v, rfl, hown, hb⟩ := hp
  obtain ⟨hE, hok, hlen⟩ := lexAll_good hr
  have hn : 0 < ts.length := by obtain ⟨t, r, rfl⟩ := hE.ne; simp
  obtain ⟨g, cap, rfl, hg1, hg2, hcap, hrow⟩ := row_of_own hown hn
  have HTK := Lib.hid (show Toks w1 g cap ts from ⟨hrow, hg2, hE, hok, hlen, hcap⟩)
  have HB := Lib.hid ((Blk.new w zeroNodeCells 25).kp (Kp.of_below (pb := w.heap.size + 1) hb) (by omega))
  have HW := Lib.hid (((Below.refl w.heap.size w).alloc (Nat.le_refl _) _).trans (hb.mono (by simp)))
  have HPB := Lib.hid (show parseB s = parseToks ts by unfold parseB; rw [hr])
  have HLEN := Lib.hid hlen
  clear hb hr hE hok hlen hn hown hrow hg1 hg2 hcap
  go_wp2_with fail
  refine (read_any HTK.out).mono ?_
  intro e w2 hp
  rw [hu] at hp
  obtain ⟨kv, rfl, hT, hb⟩ := hp
  have hsz := unit_sz hu
  have hsz2 : t.size ≤ 1000000 := by have := HLEN.out; omega
  have HB2 := Lib.hid (HB.out.kp (Kp.of_below (pb := w.heap.size + 1) hb) (by omega))
  have HW2 := Lib.hid (HW.out.trans (hb.mono HW.out.size))
  have hz2 := HB2.out.lt
  have hz1 := HB.out.lt
  have HT := Lib.hid (hT.mono (S' := fun b => w.heap.size < b ∧ b < w2.heap.size) (fun b hb hl => ⟨by omega, hl⟩))
  have HP0 := Lib.hid (show parseB s = if 4096 < t.size then (zeroT, 0, 22) else (t, 0, 0) by rw [HPB.out]; unfold parseToks; rw [hu])
  clear hb hu hT hsz
  unfold NodeV
  go_wp2_with (first
    | ((with_reducible refine at_st 25 (.tmp 8) ?_); refine wpList_store_blk rfl 25 (.tmp 8) (.tmp 24) rfl w2.heap.size (nodeCells (t) (kv)) rfl rfl ((Blk.new w2 zeroNodeCells 25).alloc _) Tryd.sizeNode rfl (nodeCells_one _ _ HT.out.kat.one) ?_)
    | ((with_reducible refine at_st 55 (.tmp 9) ?_); refine wpList_store_blk rfl 55 (.tmp 9) (.tmp 25) rfl (w2.heap.size + 1) [.int .i64 0, .int .i64 0] rfl rfl ((Blk.new2 w2 (.cells zeroNodeCells.toArray 25) [.int .i64 0, .int .i64 0] 55).rowOther w2.heap.size _ (by omega)) Tryd.sizeFault rfl (by simp [Value.oneCell']) ?_;
       have HBy := Lib.hid ((((HB2.out.alloc (.cells zeroNodeCells.toArray 25)).alloc (.cells #[.int .i64 0, .int .i64 0] 55)).rowOther w2.heap.size (nodeCells (t) (kv)).toArray (by omega)).rowOther (w2.heap.size + 1) ([.int .i64 0, .int .i64 0]).toArray (by omega));
       have HNy := Lib.hid ((((Blk.new w2 zeroNodeCells 25).alloc (.cells #[.int .i64 0, .int .i64 0] 55)).rowSame (nodeCells (t) (kv))).rowOther (w2.heap.size + 1) ([.int .i64 0, .int .i64 0]).toArray (by omega));
       have HFy := Lib.hid (((Blk.new2 w2 (.cells zeroNodeCells.toArray 25) [.int .i64 0, .int .i64 0] 55).rowOther w2.heap.size (nodeCells (t) (kv)).toArray (by omega)).rowSame [.int .i64 0, .int .i64 0]);
       have HWy := Lib.hid (below_setRow (g := w2.heap.size + 1) (below_setRow (g := w2.heap.size) ((HW2.out.alloc HW2.out.size (.cells zeroNodeCells.toArray 25)).alloc (by simp; omega) (.cells #[.int .i64 0, .int .i64 0] 55)) (by omega) (nodeCells (t) (kv)).toArray) (by omega) ([.int .i64 0, .int .i64 0]).toArray);
       have HTy : Hid (TAt 25 _ (t) (fun b => w.heap.size < b ∧ b < w2.heap.size) (kv)) := ((((HT.out.alloc (.cells zeroNodeCells.toArray 25)).alloc (.cells #[.int .i64 0, .int .i64 0] 55)).setRow w2.heap.size (nodeCells (t) (kv)).toArray (fun b hb => by omega)).setRow (w2.heap.size + 1) ([.int .i64 0, .int .i64 0]).toArray (fun b hb => by omega));
       refine at_world ((((w2.alloc (.cells zeroNodeCells.toArray 25)).alloc (.cells #[.int .i64 0, .int .i64 0] 55)).setRow w2.heap.size (nodeCells (t) (kv)).toArray).setRow (w2.heap.size + 1) ([.int .i64 0, .int .i64 0]).toArray) ?_; generalize (((w2.alloc (.cells zeroNodeCells.toArray 25)).alloc (.cells #[.int .i64 0, .int .i64 0] 55)).setRow w2.heap.size (nodeCells (t) (kv)).toArray).setRow (w2.heap.size + 1) ([.int .i64 0, .int .i64 0]).toArray = wy at HBy HNy HFy HWy HTy ⊢;
       have hcF : wy.cell? ⟨w2.heap.size + 1, 1, none⟩ = some (.int .i64 0) := HFy.out.cell 1; have hzy := HFy.out.lt)
    | ((with_reducible refine at_ld 25 (.tmp 8) ?_); refine wpList_load_blk rfl 25 (.tmp 8) rfl w2.heap.size (nodeCells t kv) rfl HNy.out Tryd.underlying25 rfl Tryd.sizeNode ?_))
  refine (size_any t.size t (Nat.le_refl _) HTy.out.kat hsz2).mono ?_
  rintro e w3 ⟨rfl, hb3⟩
  have HB3 := Lib.hid (HBy.out.kp (Kp.of_below (pb := w3.heap.size) hb3) (by have := HBy.out.lt; have := hb3.size; omega))
  have HN3 := Lib.hid (HNy.out.kp (Kp.of_below (pb := w3.heap.size) hb3) (by have := HNy.out.lt; have := hb3.size; omega))
  have HW3 := Lib.hid (HWy.out.trans (hb3.mono HWy.out.size))
  have HT3 := Lib.hid (HTy.out.below hb3)
  clear hb3
  by_cases hgt : 4096 < t.size
  · have hgt' : decide ((t.size : Int) > 4096) = true := by simp; omega
    have hgt2 : (4096 : Int) < (t.size : Int) := by omega
    have HP := Lib.hid (show parseB s = (zeroT, 0, 22) by rw [HP0.out, if_pos hgt])
    clear hgt
    go_wp2_with ((with_reducible refine at_st 25 (.tmp 2) ?_); refine wpList_store_blk rfl 25 (.tmp 2) (.tmp 39) rfl w.heap.size (nodeCells zeroT (.slice none 0 0)) rfl rfl HB3.out Tryd.sizeNode rfl (nodeCells_one _ _ rfl) ?_)
    refine ret_blk3 (cs := nodeCells zeroT (.slice none 0 0)) Tryd.results10 rfl (HB3.out.rowSame _) Tryd.underlying25 rfl Tryd.sizeNode rfl rfl rfl ?_
    rw [HP.out]
    exact ⟨.slice none 0 0, rfl, KAt.nil _ _ _, below_setRow HW3.out (Nat.le_refl _) _⟩
  · have hgt2 : ¬ (4096 : Int) < (t.size : Int) := by omega
    have HP := Lib.hid (show parseB s = (t, 0, 0) by rw [HP0.out, if_neg hgt])
    clear hgt
    go_wp2_with (first | ((with_reducible refine at_ld 25 (.tmp 8) ?_); refine wpList_load_blk rfl 25 (.tmp 8) rfl w2.heap.size (nodeCells t kv) rfl HN3.out Tryd.underlying25 rfl Tryd.sizeNode ?_) | ((with_reducible refine at_st 25 (.tmp 2) ?_); refine wpList_store_blk rfl 25 (.tmp 2) (.tmp 40) rfl w.heap.size (nodeCells t kv) rfl rfl HB3.out Tryd.sizeNode rfl (nodeCells_one _ _ HT3.out.kat.one) ?_))
    refine ret_blk3 (cs := nodeCells t kv) Tryd.results10 rfl (HB3.out.rowSame _) Tryd.underlying25 rfl Tryd.sizeNode rfl rfl rfl ?_
    rw [HP.out]
    exact ⟨kv, rfl, (HT3.out.kat.setRow w.heap.size _ (fun b hb => by omega)).mono (fun b hb _ => by omega), below_setRow HW3.out (Nat.le_refl _) _⟩


end Go.Proofs.YtnlblacpeddciaaDoor
