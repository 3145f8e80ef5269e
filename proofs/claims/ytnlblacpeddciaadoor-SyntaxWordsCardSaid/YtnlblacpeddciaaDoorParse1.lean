/- syntax.Parse where the tokens have a fault. -/
import Derived.Test.YtnlblacpeddciaaDoorParse0
namespace Go.Proofs.YtnlblacpeddciaaDoor
open Go.RowKit

theorem at_world1 {P : Program} {ops : Array Oper} {Q : Exit → Act → World → Prop} {l : List Oper} {a : Act} (W : World) (h : wpList P ops Q l a W) : wpList P ops Q l a W := h

set_option maxRecDepth 100000 in
set_option maxHeartbeats 2000000 in
theorem parse_err (s : ByteArray) (w : World) (hs : s.size ≤ maxLen) (ht : Tabs w) {ts : List Tok} {p : Nat} {c : Int} (hr : lexAll s = .ok ts) (hu : unitP ts = .error (p, c)) :
    Calls Tryd.prog 10 #[.string s] w (ParsePost (parseB s) w) := by
  have HTA := Lib.hid (ht.alloc (o := .cells zeroNodeCells.toArray 25))
  have HS := Lib.hid hs
  clear ht hs
  go_enter Tryd.func10, Tryd.ntmps10
  go_wp2_with fail
  refine (tokens_any s _ HS.out HTA.out).mono ?_
  intro e w1 hp
  rw [hr] at hp
  obtain ⟨v, rfl, hown, hb⟩ := hp
  obtain ⟨hE, hok, hlen⟩ := lexAll_good hr
  have hn : 0 < ts.length := by obtain ⟨t, r, rfl⟩ := hE.ne; simp
  obtain ⟨g, cap, rfl, hg1, hg2, hcap, hrow⟩ := row_of_own hown hn
  have HTK := Lib.hid (show Toks w1 g cap ts from ⟨hrow, hg2, hE, hok, hlen, hcap⟩)
  have HB := Lib.hid ((Blk.new w zeroNodeCells 25).kp (Kp.of_below (pb := w.heap.size + 1) hb) (by omega))
  have HW := Lib.hid (((Below.refl w.heap.size w).alloc (Nat.le_refl _) _).trans (hb.mono (by simp)))
  have HPB := Lib.hid (show parseB s = parseToks ts by unfold parseB; rw [hr])
  have HLEN := Lib.hid hlen
  clear hb hr hE hok hlen hn hown hrow hg1 hg2 hcap
  go_wp2_with fail
  refine (read_any HTK.out).mono ?_
  intro e w2 hp
  rw [hu] at hp
  obtain ⟨rfl, hb, hcd⟩ := hp
  have hne : (c != 0) = true := by rw [bne_iff_ne]; omega
  have HP := Lib.hid (show parseB s = (zeroT, p, c) by rw [HPB.out]; unfold parseToks; rw [hu])
  have HB2 := Lib.hid (HB.out.kp (Kp.of_below (pb := w.heap.size + 1) hb) (by omega))
  have HW2 := Lib.hid (HW.out.trans (hb.mono HW.out.size))
  have hz2 := HB2.out.lt
  clear hb hu hcd
  have HT := Lib.hid ((KAt.nil 25 w2 (fun b => w.heap.size < b ∧ b < w2.heap.size)).tat 0 e0 0 0)
  unfold NodeV
  go_wp2_with (first
    | ((with_reducible refine at_st 25 (.tmp 8) ?_); refine wpList_store_blk rfl 25 (.tmp 8) (.tmp 24) rfl w2.heap.size (nodeCells (zeroT) (.slice none 0 0)) rfl rfl ((Blk.new w2 zeroNodeCells 25).alloc _) Tryd.sizeNode rfl (nodeCells_one _ _ rfl) ?_)
    | ((with_reducible refine at_st 55 (.tmp 9) ?_); refine wpList_store_blk rfl 55 (.tmp 9) (.tmp 25) rfl (w2.heap.size + 1) [.int .i64 p, .int .i64 c] rfl rfl ((Blk.new2 w2 (.cells zeroNodeCells.toArray 25) [.int .i64 0, .int .i64 0] 55).rowOther w2.heap.size _ (by omega)) Tryd.sizeFault rfl (by simp [Value.oneCell']) ?_;
       have HBy := Lib.hid ((((HB2.out.alloc (.cells zeroNodeCells.toArray 25)).alloc (.cells #[.int .i64 0, .int .i64 0] 55)).rowOther w2.heap.size (nodeCells (zeroT) (.slice none 0 0)).toArray (by omega)).rowOther (w2.heap.size + 1) ([.int .i64 p, .int .i64 c]).toArray (by omega));
       have HNy := Lib.hid ((((Blk.new w2 zeroNodeCells 25).alloc (.cells #[.int .i64 0, .int .i64 0] 55)).rowSame (nodeCells (zeroT) (.slice none 0 0))).rowOther (w2.heap.size + 1) ([.int .i64 p, .int .i64 c]).toArray (by omega));
       have HFy := Lib.hid (((Blk.new2 w2 (.cells zeroNodeCells.toArray 25) [.int .i64 0, .int .i64 0] 55).rowOther w2.heap.size (nodeCells (zeroT) (.slice none 0 0)).toArray (by omega)).rowSame [.int .i64 p, .int .i64 c]);
       have HWy := Lib.hid (below_setRow (g := w2.heap.size + 1) (below_setRow (g := w2.heap.size) ((HW2.out.alloc HW2.out.size (.cells zeroNodeCells.toArray 25)).alloc (by simp; omega) (.cells #[.int .i64 0, .int .i64 0] 55)) (by omega) (nodeCells (zeroT) (.slice none 0 0)).toArray) (by omega) ([.int .i64 p, .int .i64 c]).toArray);
       have HTy : Hid (TAt 25 _ (zeroT) (fun b => w.heap.size < b ∧ b < w2.heap.size) (.slice none 0 0)) := ((((HT.out.alloc (.cells zeroNodeCells.toArray 25)).alloc (.cells #[.int .i64 0, .int .i64 0] 55)).setRow w2.heap.size (nodeCells (zeroT) (.slice none 0 0)).toArray (fun b hb => by omega)).setRow (w2.heap.size + 1) ([.int .i64 p, .int .i64 c]).toArray (fun b hb => by omega));
       refine at_world1 ((((w2.alloc (.cells zeroNodeCells.toArray 25)).alloc (.cells #[.int .i64 0, .int .i64 0] 55)).setRow w2.heap.size (nodeCells (zeroT) (.slice none 0 0)).toArray).setRow (w2.heap.size + 1) ([.int .i64 p, .int .i64 c]).toArray) ?_; generalize (((w2.alloc (.cells zeroNodeCells.toArray 25)).alloc (.cells #[.int .i64 0, .int .i64 0] 55)).setRow w2.heap.size (nodeCells (zeroT) (.slice none 0 0)).toArray).setRow (w2.heap.size + 1) ([.int .i64 p, .int .i64 c]).toArray = wy at HBy HNy HFy HWy HTy ⊢;
       have hcF : wy.cell? ⟨w2.heap.size + 1, 1, none⟩ = some (.int .i64 c) := HFy.out.cell 1; have hzy := HFy.out.lt))
  refine AnyE.begin2 (S := fun W => Blk W (w2.heap.size + 1) [.int .i64 p, .int .i64 c] 55) (by kernel_rfl) HFy.out.drew (fun hS => ?_)
  refine AnyE.take (i := 1) (v := .pointer (some ⟨w2.heap.size + 1, 0, none⟩)) rfl (by kernel_rfl) (by kernel_rfl) (by kernel_rfl) (by kernel_rfl) (fun _ _ _ h => h) (Or.inl ⟨by rfl, fun W _ => by go_simp⟩) hS ?_
  refine AnyE.take (i := 2) (v := .int .i64 p) rfl (by kernel_rfl) (by kernel_rfl) (by kernel_rfl) (by kernel_rfl) (fun _ _ _ h => h) (Or.inl ⟨by rfl, fun W hW => by have hcx : W.cell? ⟨w2.heap.size + 1, 0, none⟩ = some (.int .i64 p) := hW.cell 0; go_simp⟩) hS ?_
  refine AnyE.take (i := 3) (v := .pointer (some ⟨w2.heap.size + 1, 1, none⟩)) rfl (by kernel_rfl) (by kernel_rfl) (by kernel_rfl) (by kernel_rfl) (fun _ _ _ h => h) (Or.inl ⟨by rfl, fun W _ => by go_simp⟩) hS ?_
  refine AnyE.take (i := 4) (v := .int .i64 c) rfl (by kernel_rfl) (by kernel_rfl) (by kernel_rfl) (by kernel_rfl) (fun _ _ _ h => h) (Or.inl ⟨by rfl, fun W hW => by have hcx : W.cell? ⟨w2.heap.size + 1, 1, none⟩ = some (.int .i64 c) := hW.cell 1; go_simp⟩) hS ?_
  refine AnyE.one (i := 0) (by kernel_rfl) rfl (by rfl) (fun K hK => ?_)
  go_simp
  refine hK.out _ _ (fun _ => HFy.out.drew) ?_
  clear hK K
  refine AnyE.one (i := 5) (by kernel_rfl) rfl (by rfl) (fun K hK => ?_)
  refine wp_store_blk 25 (.tmp 2) (.tmp 30) rfl w.heap.size (nodeCells zeroT (.slice none 0 0)) rfl rfl HBy.out.drew Tryd.sizeNode rfl (nodeCells_one _ _ rfl) ?_
  refine hK.out _ _ (fun _ => HFy.out.drew.rowOther w.heap.size _ (by omega)) ?_
  clear hK K
  refine AnyE.one (i := 6) (by kernel_rfl) rfl (by rfl) (fun K hK => ?_)
  go_simp
  refine hK.out _ _ (fun _ => HFy.out.drew.rowOther w.heap.size _ (by omega)) ?_
  clear hK K
  refine AnyE.one (i := 7) (by kernel_rfl) rfl (by rfl) (fun K hK => ?_)
  go_simp
  refine hK.out _ _ (fun h => absurd rfl h) ?_
  clear hK K
  refine AnyE.done (by kernel_rfl) ?_ _
  go_wp2
  refine ret_blk3 (cs := nodeCells zeroT (.slice none 0 0)) Tryd.results10 rfl (HBy.out.drew.rowSame _) Tryd.underlying25 rfl Tryd.sizeNode rfl rfl rfl ?_
  rw [HP.out]
  exact ⟨.slice none 0 0, rfl, KAt.nil _ _ _, below_setRow HWy.out.drew (Nat.le_refl _) _⟩

end Go.Proofs.YtnlblacpeddciaaDoor
