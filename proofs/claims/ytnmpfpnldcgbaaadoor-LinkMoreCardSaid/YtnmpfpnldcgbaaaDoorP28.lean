/- The contract of code.simple: the instruction of a statement without a block or an expression, by its kind. -/
import Derived.Test.YtnmpfpnldcgbaaaDoorP27
namespace Go.Proofs.YtnmpfpnldcgbaaaDoor
open Go.RowKit

theorem ret_cell_tmp {P : Program} {fn : Func} {s u : Tmp} {ty t : TypeId} (h : fn.results = #[.cell s ty, .tmp u]) {a : Act} {W : World} {g : Nat} {cs : List Value} {d : TypeDesc} {R : Ending → World → Prop} {x : Value} (hs : a.tmps.getD s undef = .pointer (some ⟨g, 0, none⟩))
    (hb : Blk W g cs t) (hu : P.underlying ty = some d) (hd : d.isRow = true) (hi : (P.info? ty).map (·.size) = some cs.length) (hx : a.tmps.getD u undef = x) (hdf : a.defers = []) (hR : R (.returned (.tuple #[.agg cs.toArray, x])) W) : bodyPost P fn R .ret a W := by
  refine bodyPost_ret ?_ hdf hR
  have hl := run_loadVar_mid (P := P) W g 0 ty cs d (fun j v hj => by rw [Nat.zero_add, hb.cell j]; exact hj) hu hd hi
  have hs' : a.tmps[s]?.getD undef = .pointer (some ⟨g, 0, none⟩) := by rw [← hs]; simp
  have hx' : a.tmps[u]?.getD undef = x := by rw [← hx]; simp
  simp [results, h, hs', asAddr, hl, hx']
def SimplePost (w : World) (i : Ins) (e : Ending) (w' : World) : Prop := ∃ u, e = .returned (.tuple #[InsV i u, .bool true]) ∧ ArgsAt w' i.args (fun b => w.heap.size ≤ b) u ∧ Below w.heap.size w w'

set_option maxRecDepth 100000 in
set_option maxHeartbeats 2000000 in
theorem simple_11 {w : World} {tx : ByteArray} {nm : Int} {p : Nat} {ks : List T} {S : Nat → Prop} {kv : Value} (hk : KAt 25 w ks S kv) :
    simpleI (.mk 11 tx nm p ks) = some (⟨6, p, e0, tx, tmOf (kidP (.mk 11 tx nm p ks) 0), tmOf (kidP (.mk 11 tx nm p ks) 1), [], 0, false⟩ : Ins) ∧ Calls Tryd.prog 82 #[NodeV (.mk 11 tx nm p ks) kv] w (SimplePost w (⟨6, p, e0, tx, tmOf (kidP (.mk 11 tx nm p ks) 0), tmOf (kidP (.mk 11 tx nm p ks) 1), [], 0, false⟩ : Ins)) := by
  refine ⟨rfl, ?_⟩
  obtain ⟨ua, un, uc, rfl⟩ := hk.slice
  obtain ⟨W0, hW0, HI0, HF0, HU0, HR0, HB0⟩ : ∃ W0 : World, (((w.alloc (.cells (nodeCells (.mk 11 tx nm p ks) (.slice ua un uc)).toArray 25)).alloc (.cells (insCells ins0 (.slice none 0 0)).toArray 43)).alloc (.cells (insCells (⟨0, p, e0, e0, tm0, tm0, [], 0, false⟩ : Ins) (.slice none 0 0)).toArray 43)).drew = W0 ∧ Hid (Blk W0 (w.heap.size + 1 + 1) (insCells (⟨0, p, e0, e0, tm0, tm0, [], 0, false⟩ : Ins) (.slice none 0 0)) 43) ∧ Hid (Blk W0 w.heap.size (nodeCells (.mk 11 tx nm p ks) (.slice ua un uc)) 25) ∧ Hid (KAt 25 W0 ks (fun b => b < w.heap.size) (.slice ua un uc)) ∧ Hid (Blk W0 (w.heap.size + 1) (insCells ins0 (.slice none 0 0)) 43) ∧ Hid (Below w.heap.size w W0) :=
    ⟨_, rfl, Lib.hid (by have h := Blk.new2 (w.alloc (.cells (nodeCells (.mk 11 tx nm p ks) (.slice ua un uc)).toArray 25)) (.cells (insCells ins0 (.slice none 0 0)).toArray 43) (insCells (⟨0, p, e0, e0, tm0, tm0, [], 0, false⟩ : Ins) (.slice none 0 0)) 43; rw [show (w.alloc (.cells (nodeCells (.mk 11 tx nm p ks) (.slice ua un uc)).toArray 25)).heap.size = w.heap.size + 1 by simp] at h; exact h.drew),
      Lib.hid (((Blk.new w _ _).alloc _).alloc _).drew, Lib.hid ((((hk.mono (S' := fun b => b < w.heap.size) fun b _ hl => hl).alloc _).alloc _).alloc _).drew, Lib.hid ((Blk.new2 w _ _ _).alloc _).drew, Lib.hid ((((Below.refl _ _).alloc (Nat.le_refl _) _).alloc (by simp) _).alloc (by simp; omega) _).drew⟩
  clear hk
  unfold NodeV
  simp only [kind_mk, text_mk, num_mk, place_mk]
  go_enter Tryd.func82, Tryd.ntmps82
  go_wp2_with fail
  refine AnyE.begin3 (S := fun W => Blk W w.heap.size (nodeCells (.mk 11 tx nm p ks) (.slice ua un uc)) 25) hW0 (by kernel_rfl) HF0.out (fun hS => ?_)
  clear hW0
  refine AnyE.take (i := 0) (v := .pointer (some ⟨w.heap.size, 1, none⟩)) rfl (by kernel_rfl) (by kernel_rfl) (by kernel_rfl) (by kernel_rfl) (fun _ _ _ h => h) (Or.inl ⟨by rfl, fun W _ => by go_simp⟩) hS ?_
  refine AnyE.take (i := 1) (v := .string tx) rfl (by kernel_rfl) (by kernel_rfl) (by kernel_rfl) (by kernel_rfl) (fun _ _ _ h => h) (Or.inl ⟨by rfl, fun W hW => by have hcx : W.cell? ⟨w.heap.size, 1, none⟩ = some (.string tx) := hW.cell 1; go_simp⟩) hS ?_
  refine AnyE.take (i := 2) (v := .agg #[.int .i64 11, .string tx, .int .i64 nm, .int .i64 p, .slice ua un uc]) rfl (by kernel_rfl) (by kernel_rfl) (by kernel_rfl) (by kernel_rfl) (fun _ _ _ h => h) (yieldsIf_load_mid (cs := (nodeCells (.mk 11 tx nm p ks) (.slice ua un uc))) (by rfl) 25 (.tmp 1) rfl (w.heap.size) 0 rfl _ (fun W hW j v hj => by rw [Nat.zero_add, hW.cell j]; exact hj) Tryd.underlying25 rfl Tryd.sizeNode) hS ?_
  refine AnyE.take (i := 4) (v := .agg #[.int .i64 11, .string tx, .int .i64 nm, .int .i64 p, .slice ua un uc]) rfl (by kernel_rfl) (by kernel_rfl) (by kernel_rfl) (by kernel_rfl) (fun _ _ _ h => h) (yieldsIf_load_mid (cs := (nodeCells (.mk 11 tx nm p ks) (.slice ua un uc))) (by rfl) 25 (.tmp 1) rfl (w.heap.size) 0 rfl _ (fun W hW j v hj => by rw [Nat.zero_add, hW.cell j]; exact hj) Tryd.underlying25 rfl Tryd.sizeNode) hS ?_
  refine AnyE.take (i := 6) (v := .pointer (some ⟨w.heap.size + 1 + 1, 0, none⟩)) rfl (by kernel_rfl) (by kernel_rfl) (by kernel_rfl) (by kernel_rfl) (fun _ _ _ h => h) (Or.inl ⟨by rfl, fun W _ => by go_simp⟩) hS ?_
  refine AnyE.one (i := 3) (by kernel_rfl) rfl (by rfl) (fun K hK => ?_)
  go_simp
  refine (termOf_any (t := (.mk 11 tx nm p ks)) HU0.out 0).mono ?_
  rintro e W1 ⟨rfl, hb⟩
  have HI1 := Lib.hid (HI0.out.stays hb)
  have HF1 := Lib.hid (HF0.out.stays hb)
  have HU1 := Lib.hid (HU0.out.below hb)
  have HR1 := Lib.hid (HR0.out.stays hb)
  have HB1 := Lib.hid (HB0.out.trans (hb.mono HB0.out.size))
  clear hb
  unfold TmV
  refine hK.out _ _ (fun _ => HF1.out) ?_
  clear hK K
  refine AnyE.one (i := 5) (by kernel_rfl) rfl (by rfl) (fun K hK => ?_)
  go_simp
  refine (termOf_any (t := (.mk 11 tx nm p ks)) HU1.out 1).mono ?_
  rintro e W2 ⟨rfl, hb⟩
  have HI2 := Lib.hid (HI1.out.stays hb)
  have HF2 := Lib.hid (HF1.out.stays hb)
  have HU2 := Lib.hid (HU1.out.below hb)
  have HR2 := Lib.hid (HR1.out.stays hb)
  have HB2 := Lib.hid (HB1.out.trans (hb.mono HB1.out.size))
  clear hb
  unfold TmV
  refine hK.out _ _ (fun _ => HF2.out) ?_
  clear hK K
  refine AnyE.one (i := 7) (by kernel_rfl) rfl (by rfl) (fun K hK => ?_)
  have hcx : W2.cell? ⟨w.heap.size + 1 + 1, 0, none⟩ = some (.int .i64 0) := HI2.out.cell 0
  have hfx := HI2.out.frozen 0
  go_simp
  clear hcx hfx
  have HI3 := Lib.hid (show Blk _ _ (insCells (⟨6, p, e0, e0, tm0, tm0, [], 0, false⟩ : Ins) (.slice none 0 0)) 43 from HI2.out.setSame 0 (.int .i64 6))
  have HF3 := Lib.hid (HF2.out.setOther ⟨w.heap.size + 1 + 1, 0, none⟩ (.int .i64 6) (by show w.heap.size ≠ w.heap.size + 1 + 1; omega))
  have HU3 := Lib.hid (HU2.out.keep (S' := fun b => b < w.heap.size) (w' := W2.setCell ⟨w.heap.size + 1 + 1, 0, none⟩ (.int .i64 6)) fun b hb hl => ⟨hb, Below.heap_setCell _ _ _ _ (by show b ≠ w.heap.size + 1 + 1; omega)⟩)
  have HR3 := Lib.hid (HR2.out.setOther ⟨w.heap.size + 1 + 1, 0, none⟩ (.int .i64 6) (by show w.heap.size + 1 ≠ w.heap.size + 1 + 1; omega))
  have HB3 := Lib.hid (HB2.out.setCell (p := ⟨w.heap.size + 1 + 1, 0, none⟩) (by show w.heap.size ≤ w.heap.size + 1 + 1; omega) (.int .i64 6))
  generalize W2.setCell ⟨w.heap.size + 1 + 1, 0, none⟩ (.int .i64 6) = W3 at HI3 HF3 HU3 HR3 HB3 ⊢
  refine hK.out _ _ (fun _ => HF3.out) ?_
  clear hK K
  refine AnyE.one (i := 8) (by kernel_rfl) rfl (by rfl) (fun K hK => ?_)
  go_simp
  refine hK.out _ _ (fun _ => HF3.out) ?_
  clear hK K
  refine AnyE.one (i := 9) (by kernel_rfl) rfl (by rfl) (fun K hK => ?_)
  have hcx : W3.cell? ⟨w.heap.size + 1 + 1, 3, none⟩ = some (.string ⟨#[]⟩) := HI3.out.cell 3
  have hfx := HI3.out.frozen 3
  go_simp
  clear hcx hfx
  have HI4 := Lib.hid (show Blk _ _ (insCells (⟨6, p, e0, tx, tm0, tm0, [], 0, false⟩ : Ins) (.slice none 0 0)) 43 from HI3.out.setSame 3 (.string tx))
  have HF4 := Lib.hid (HF3.out.setOther ⟨w.heap.size + 1 + 1, 3, none⟩ (.string tx) (by show w.heap.size ≠ w.heap.size + 1 + 1; omega))
  have HU4 := Lib.hid (HU3.out.keep (S' := fun b => b < w.heap.size) (w' := W3.setCell ⟨w.heap.size + 1 + 1, 3, none⟩ (.string tx)) fun b hb hl => ⟨hb, Below.heap_setCell _ _ _ _ (by show b ≠ w.heap.size + 1 + 1; omega)⟩)
  have HR4 := Lib.hid (HR3.out.setOther ⟨w.heap.size + 1 + 1, 3, none⟩ (.string tx) (by show w.heap.size + 1 ≠ w.heap.size + 1 + 1; omega))
  have HB4 := Lib.hid (HB3.out.setCell (p := ⟨w.heap.size + 1 + 1, 3, none⟩) (by show w.heap.size ≤ w.heap.size + 1 + 1; omega) (.string tx))
  generalize W3.setCell ⟨w.heap.size + 1 + 1, 3, none⟩ (.string tx) = W4 at HI4 HF4 HU4 HR4 HB4 ⊢
  refine hK.out _ _ (fun _ => HF4.out) ?_
  clear hK K
  refine AnyE.one (i := 10) (by kernel_rfl) rfl (by rfl) (fun K hK => ?_)
  go_simp
  refine hK.out _ _ (fun _ => HF4.out) ?_
  clear hK K
  refine AnyE.one (i := 11) (by kernel_rfl) rfl (by rfl) (fun K hK => ?_)
  refine wp_store_mid 40 (.tmp 22) (.tmp 17) rfl (w.heap.size + 1 + 1) 4 #[.string (tmOf (kidP (.mk 11 tx nm p ks) 0)).name, .int .i64 (tmOf (kidP (.mk 11 tx nm p ks) 0)).num] rfl rfl (HI4.out.thereN 4 2 (show 4 + 2 ≤ 11 by omega)) Tryd.sizeTerm (all_oneCell_toArray (tmCells_one (tmOf (kidP (.mk 11 tx nm p ks) 0)))) ?_
  have HI5 := Lib.hid (show Blk (W4.setCells (w.heap.size + 1 + 1) 4 [.string (tmOf (kidP (.mk 11 tx nm p ks) 0)).name, .int .i64 (tmOf (kidP (.mk 11 tx nm p ks) 0)).num]) _ (insCells (⟨6, p, e0, tx, tmOf (kidP (.mk 11 tx nm p ks) 0), tm0, [], 0, false⟩ : Ins) (.slice none 0 0)) 43 from HI4.out.setCells2 4 _ _)
  have HF5 := Lib.hid (show Blk (W4.setCells (w.heap.size + 1 + 1) 4 [.string (tmOf (kidP (.mk 11 tx nm p ks) 0)).name, .int .i64 (tmOf (kidP (.mk 11 tx nm p ks) 0)).num]) _ _ _ from HF4.out.other2 (by omega) 4 _ _)
  have HR5 := Lib.hid (show Blk (W4.setCells (w.heap.size + 1 + 1) 4 [.string (tmOf (kidP (.mk 11 tx nm p ks) 0)).name, .int .i64 (tmOf (kidP (.mk 11 tx nm p ks) 0)).num]) _ _ _ from HR4.out.other2 (by omega) 4 _ _)
  have HB5 := Lib.hid (show Below _ _ (W4.setCells (w.heap.size + 1 + 1) 4 [.string (tmOf (kidP (.mk 11 tx nm p ks) 0)).name, .int .i64 (tmOf (kidP (.mk 11 tx nm p ks) 0)).num]) from Below.cells2 HB4.out (by omega) 4 _ _)
  refine hK.out _ _ (fun _ => HF5.out) ?_
  clear hK K
  refine AnyE.one (i := 12) (by kernel_rfl) rfl (by rfl) (fun K hK => ?_)
  go_simp
  refine hK.out _ _ (fun _ => HF5.out) ?_
  clear hK K
  refine AnyE.one (i := 13) (by kernel_rfl) rfl (by rfl) (fun K hK => ?_)
  refine wp_store_mid 40 (.tmp 23) (.tmp 19) rfl (w.heap.size + 1 + 1) 6 #[.string (tmOf (kidP (.mk 11 tx nm p ks) 1)).name, .int .i64 (tmOf (kidP (.mk 11 tx nm p ks) 1)).num] rfl rfl (HI5.out.thereN 6 2 (show 6 + 2 ≤ 11 by omega)) Tryd.sizeTerm (all_oneCell_toArray (tmCells_one (tmOf (kidP (.mk 11 tx nm p ks) 1)))) ?_
  have HI6 := Lib.hid (show Blk ((W4.setCells (w.heap.size + 1 + 1) 4 [.string (tmOf (kidP (.mk 11 tx nm p ks) 0)).name, .int .i64 (tmOf (kidP (.mk 11 tx nm p ks) 0)).num]).setCells (w.heap.size + 1 + 1) 6 [.string (tmOf (kidP (.mk 11 tx nm p ks) 1)).name, .int .i64 (tmOf (kidP (.mk 11 tx nm p ks) 1)).num]) _ (insCells (⟨6, p, e0, tx, tmOf (kidP (.mk 11 tx nm p ks) 0), tmOf (kidP (.mk 11 tx nm p ks) 1), [], 0, false⟩ : Ins) (.slice none 0 0)) 43 from HI5.out.setCells2 6 _ _)
  have HF6 := Lib.hid (show Blk ((W4.setCells (w.heap.size + 1 + 1) 4 [.string (tmOf (kidP (.mk 11 tx nm p ks) 0)).name, .int .i64 (tmOf (kidP (.mk 11 tx nm p ks) 0)).num]).setCells (w.heap.size + 1 + 1) 6 [.string (tmOf (kidP (.mk 11 tx nm p ks) 1)).name, .int .i64 (tmOf (kidP (.mk 11 tx nm p ks) 1)).num]) _ _ _ from HF5.out.other2 (by omega) 6 _ _)
  have HR6 := Lib.hid (show Blk ((W4.setCells (w.heap.size + 1 + 1) 4 [.string (tmOf (kidP (.mk 11 tx nm p ks) 0)).name, .int .i64 (tmOf (kidP (.mk 11 tx nm p ks) 0)).num]).setCells (w.heap.size + 1 + 1) 6 [.string (tmOf (kidP (.mk 11 tx nm p ks) 1)).name, .int .i64 (tmOf (kidP (.mk 11 tx nm p ks) 1)).num]) _ _ _ from HR5.out.other2 (by omega) 6 _ _)
  have HB6 := Lib.hid (show Below _ _ ((W4.setCells (w.heap.size + 1 + 1) 4 [.string (tmOf (kidP (.mk 11 tx nm p ks) 0)).name, .int .i64 (tmOf (kidP (.mk 11 tx nm p ks) 0)).num]).setCells (w.heap.size + 1 + 1) 6 [.string (tmOf (kidP (.mk 11 tx nm p ks) 1)).name, .int .i64 (tmOf (kidP (.mk 11 tx nm p ks) 1)).num]) from Below.cells2 HB5.out (by omega) 6 _ _)
  refine hK.out _ _ (fun h => absurd rfl h) ?_
  clear hK K
  refine AnyE.done (by kernel_rfl) ?_ _
  go_wp2_with (first
    | ((with_reducible refine at_ld 43 (.tmp 4) ?_); refine wpList_load_blk rfl 43 (.tmp 4) rfl (w.heap.size + 1 + 1) (insCells (⟨6, p, e0, tx, tmOf (kidP (.mk 11 tx nm p ks) 0), tmOf (kidP (.mk 11 tx nm p ks) 1), [], 0, false⟩ : Ins) (.slice none 0 0)) rfl HI6.out Tryd.underlying43 rfl Tryd.sizeInstr ?_)
    | ((with_reducible refine at_st 43 (.tmp 2) ?_); refine wpList_store_blk rfl 43 (.tmp 2) (.tmp 84) rfl (w.heap.size + 1) (insCells (⟨6, p, e0, tx, tmOf (kidP (.mk 11 tx nm p ks) 0), tmOf (kidP (.mk 11 tx nm p ks) 1), [], 0, false⟩ : Ins) (.slice none 0 0)) rfl rfl HR6.out Tryd.sizeInstr rfl (insCells_one _ _ rfl) ?_))
  exact ret_cell_tmp (cs := (insCells (⟨6, p, e0, tx, tmOf (kidP (.mk 11 tx nm p ks) 0), tmOf (kidP (.mk 11 tx nm p ks) 1), [], 0, false⟩ : Ins) (.slice none 0 0))) Tryd.results82 rfl (HR6.out.rowSame _) Tryd.underlying43 rfl Tryd.sizeInstr rfl rfl ⟨_, rfl, ArgsAt.nil _ _, Below.row HB6.out (by omega) _⟩

set_option maxRecDepth 100000 in
set_option maxHeartbeats 2000000 in
theorem simple_12 {w : World} {tx : ByteArray} {nm : Int} {p : Nat} {ks : List T} {S : Nat → Prop} {kv : Value} (hk : KAt 25 w ks S kv) :
    simpleI (.mk 12 tx nm p ks) = some (⟨7, p, e0, tx, tm0, tm0, [], 0, false⟩ : Ins) ∧ Calls Tryd.prog 82 #[NodeV (.mk 12 tx nm p ks) kv] w (SimplePost w (⟨7, p, e0, tx, tm0, tm0, [], 0, false⟩ : Ins)) := by
  refine ⟨rfl, ?_⟩
  obtain ⟨ua, un, uc, rfl⟩ := hk.slice
  obtain ⟨W0, hW0, HI0, HF0, HU0, HR0, HB0⟩ : ∃ W0 : World, (((w.alloc (.cells (nodeCells (.mk 12 tx nm p ks) (.slice ua un uc)).toArray 25)).alloc (.cells (insCells ins0 (.slice none 0 0)).toArray 43)).alloc (.cells (insCells (⟨0, p, e0, e0, tm0, tm0, [], 0, false⟩ : Ins) (.slice none 0 0)).toArray 43)).drew = W0 ∧ Hid (Blk W0 (w.heap.size + 1 + 1) (insCells (⟨0, p, e0, e0, tm0, tm0, [], 0, false⟩ : Ins) (.slice none 0 0)) 43) ∧ Hid (Blk W0 w.heap.size (nodeCells (.mk 12 tx nm p ks) (.slice ua un uc)) 25) ∧ Hid (KAt 25 W0 ks (fun b => b < w.heap.size) (.slice ua un uc)) ∧ Hid (Blk W0 (w.heap.size + 1) (insCells ins0 (.slice none 0 0)) 43) ∧ Hid (Below w.heap.size w W0) :=
    ⟨_, rfl, Lib.hid (by have h := Blk.new2 (w.alloc (.cells (nodeCells (.mk 12 tx nm p ks) (.slice ua un uc)).toArray 25)) (.cells (insCells ins0 (.slice none 0 0)).toArray 43) (insCells (⟨0, p, e0, e0, tm0, tm0, [], 0, false⟩ : Ins) (.slice none 0 0)) 43; rw [show (w.alloc (.cells (nodeCells (.mk 12 tx nm p ks) (.slice ua un uc)).toArray 25)).heap.size = w.heap.size + 1 by simp] at h; exact h.drew),
      Lib.hid (((Blk.new w _ _).alloc _).alloc _).drew, Lib.hid ((((hk.mono (S' := fun b => b < w.heap.size) fun b _ hl => hl).alloc _).alloc _).alloc _).drew, Lib.hid ((Blk.new2 w _ _ _).alloc _).drew, Lib.hid ((((Below.refl _ _).alloc (Nat.le_refl _) _).alloc (by simp) _).alloc (by simp; omega) _).drew⟩
  clear hk
  unfold NodeV
  simp only [kind_mk, text_mk, num_mk, place_mk]
  go_enter Tryd.func82, Tryd.ntmps82
  go_wp2_with fail
  refine AnyE.begin3 (S := fun W => Blk W w.heap.size (nodeCells (.mk 12 tx nm p ks) (.slice ua un uc)) 25) hW0 (by kernel_rfl) HF0.out (fun hS => ?_)
  clear hW0
  refine AnyE.take (i := 0) (v := .pointer (some ⟨w.heap.size, 1, none⟩)) rfl (by kernel_rfl) (by kernel_rfl) (by kernel_rfl) (by kernel_rfl) (fun _ _ _ h => h) (Or.inl ⟨by rfl, fun W _ => by go_simp⟩) hS ?_
  refine AnyE.take (i := 1) (v := .string tx) rfl (by kernel_rfl) (by kernel_rfl) (by kernel_rfl) (by kernel_rfl) (fun _ _ _ h => h) (Or.inl ⟨by rfl, fun W hW => by have hcx : W.cell? ⟨w.heap.size, 1, none⟩ = some (.string tx) := hW.cell 1; go_simp⟩) hS ?_
  refine AnyE.take (i := 2) (v := .pointer (some ⟨w.heap.size + 1 + 1, 0, none⟩)) rfl (by kernel_rfl) (by kernel_rfl) (by kernel_rfl) (by kernel_rfl) (fun _ _ _ h => h) (Or.inl ⟨by rfl, fun W _ => by go_simp⟩) hS ?_
  refine AnyE.one (i := 3) (by kernel_rfl) rfl (by rfl) (fun K hK => ?_)
  have hcx : W0.cell? ⟨w.heap.size + 1 + 1, 0, none⟩ = some (.int .i64 0) := HI0.out.cell 0
  have hfx := HI0.out.frozen 0
  go_simp
  clear hcx hfx
  have HI1 := Lib.hid (show Blk _ _ (insCells (⟨7, p, e0, e0, tm0, tm0, [], 0, false⟩ : Ins) (.slice none 0 0)) 43 from HI0.out.setSame 0 (.int .i64 7))
  have HF1 := Lib.hid (HF0.out.setOther ⟨w.heap.size + 1 + 1, 0, none⟩ (.int .i64 7) (by show w.heap.size ≠ w.heap.size + 1 + 1; omega))
  have HU1 := Lib.hid (HU0.out.keep (S' := fun b => b < w.heap.size) (w' := W0.setCell ⟨w.heap.size + 1 + 1, 0, none⟩ (.int .i64 7)) fun b hb hl => ⟨hb, Below.heap_setCell _ _ _ _ (by show b ≠ w.heap.size + 1 + 1; omega)⟩)
  have HR1 := Lib.hid (HR0.out.setOther ⟨w.heap.size + 1 + 1, 0, none⟩ (.int .i64 7) (by show w.heap.size + 1 ≠ w.heap.size + 1 + 1; omega))
  have HB1 := Lib.hid (HB0.out.setCell (p := ⟨w.heap.size + 1 + 1, 0, none⟩) (by show w.heap.size ≤ w.heap.size + 1 + 1; omega) (.int .i64 7))
  generalize W0.setCell ⟨w.heap.size + 1 + 1, 0, none⟩ (.int .i64 7) = W1 at HI1 HF1 HU1 HR1 HB1 ⊢
  refine hK.out _ _ (fun _ => HF1.out) ?_
  clear hK K
  refine AnyE.one (i := 4) (by kernel_rfl) rfl (by rfl) (fun K hK => ?_)
  go_simp
  refine hK.out _ _ (fun _ => HF1.out) ?_
  clear hK K
  refine AnyE.one (i := 5) (by kernel_rfl) rfl (by rfl) (fun K hK => ?_)
  have hcx : W1.cell? ⟨w.heap.size + 1 + 1, 3, none⟩ = some (.string ⟨#[]⟩) := HI1.out.cell 3
  have hfx := HI1.out.frozen 3
  go_simp
  clear hcx hfx
  have HI2 := Lib.hid (show Blk _ _ (insCells (⟨7, p, e0, tx, tm0, tm0, [], 0, false⟩ : Ins) (.slice none 0 0)) 43 from HI1.out.setSame 3 (.string tx))
  have HF2 := Lib.hid (HF1.out.setOther ⟨w.heap.size + 1 + 1, 3, none⟩ (.string tx) (by show w.heap.size ≠ w.heap.size + 1 + 1; omega))
  have HU2 := Lib.hid (HU1.out.keep (S' := fun b => b < w.heap.size) (w' := W1.setCell ⟨w.heap.size + 1 + 1, 3, none⟩ (.string tx)) fun b hb hl => ⟨hb, Below.heap_setCell _ _ _ _ (by show b ≠ w.heap.size + 1 + 1; omega)⟩)
  have HR2 := Lib.hid (HR1.out.setOther ⟨w.heap.size + 1 + 1, 3, none⟩ (.string tx) (by show w.heap.size + 1 ≠ w.heap.size + 1 + 1; omega))
  have HB2 := Lib.hid (HB1.out.setCell (p := ⟨w.heap.size + 1 + 1, 3, none⟩) (by show w.heap.size ≤ w.heap.size + 1 + 1; omega) (.string tx))
  generalize W1.setCell ⟨w.heap.size + 1 + 1, 3, none⟩ (.string tx) = W2 at HI2 HF2 HU2 HR2 HB2 ⊢
  refine hK.out _ _ (fun h => absurd rfl h) ?_
  clear hK K
  refine AnyE.done (by kernel_rfl) ?_ _
  go_wp2_with (first
    | ((with_reducible refine at_ld 43 (.tmp 4) ?_); refine wpList_load_blk rfl 43 (.tmp 4) rfl (w.heap.size + 1 + 1) (insCells (⟨7, p, e0, tx, tm0, tm0, [], 0, false⟩ : Ins) (.slice none 0 0)) rfl HI2.out Tryd.underlying43 rfl Tryd.sizeInstr ?_)
    | ((with_reducible refine at_st 43 (.tmp 2) ?_); refine wpList_store_blk rfl 43 (.tmp 2) (.tmp 84) rfl (w.heap.size + 1) (insCells (⟨7, p, e0, tx, tm0, tm0, [], 0, false⟩ : Ins) (.slice none 0 0)) rfl rfl HR2.out Tryd.sizeInstr rfl (insCells_one _ _ rfl) ?_))
  exact ret_cell_tmp (cs := (insCells (⟨7, p, e0, tx, tm0, tm0, [], 0, false⟩ : Ins) (.slice none 0 0))) Tryd.results82 rfl (HR2.out.rowSame _) Tryd.underlying43 rfl Tryd.sizeInstr rfl rfl ⟨_, rfl, ArgsAt.nil _ _, Below.row HB2.out (by omega) _⟩

set_option maxRecDepth 100000 in
set_option maxHeartbeats 2000000 in
theorem simple_13 {w : World} {tx : ByteArray} {nm : Int} {p : Nat} {ks : List T} {S : Nat → Prop} {kv : Value} (hk : KAt 25 w ks S kv) :
    simpleI (.mk 13 tx nm p ks) = some (⟨8, p, e0, tx, ⟨e0, nm⟩, tm0, [], 0, false⟩ : Ins) ∧ Calls Tryd.prog 82 #[NodeV (.mk 13 tx nm p ks) kv] w (SimplePost w (⟨8, p, e0, tx, ⟨e0, nm⟩, tm0, [], 0, false⟩ : Ins)) := by
  refine ⟨rfl, ?_⟩
  obtain ⟨ua, un, uc, rfl⟩ := hk.slice
  obtain ⟨W0, hW0, HI0, HF0, HU0, HR0, HB0⟩ : ∃ W0 : World, (((w.alloc (.cells (nodeCells (.mk 13 tx nm p ks) (.slice ua un uc)).toArray 25)).alloc (.cells (insCells ins0 (.slice none 0 0)).toArray 43)).alloc (.cells (insCells (⟨0, p, e0, e0, tm0, tm0, [], 0, false⟩ : Ins) (.slice none 0 0)).toArray 43)).drew = W0 ∧ Hid (Blk W0 (w.heap.size + 1 + 1) (insCells (⟨0, p, e0, e0, tm0, tm0, [], 0, false⟩ : Ins) (.slice none 0 0)) 43) ∧ Hid (Blk W0 w.heap.size (nodeCells (.mk 13 tx nm p ks) (.slice ua un uc)) 25) ∧ Hid (KAt 25 W0 ks (fun b => b < w.heap.size) (.slice ua un uc)) ∧ Hid (Blk W0 (w.heap.size + 1) (insCells ins0 (.slice none 0 0)) 43) ∧ Hid (Below w.heap.size w W0) :=
    ⟨_, rfl, Lib.hid (by have h := Blk.new2 (w.alloc (.cells (nodeCells (.mk 13 tx nm p ks) (.slice ua un uc)).toArray 25)) (.cells (insCells ins0 (.slice none 0 0)).toArray 43) (insCells (⟨0, p, e0, e0, tm0, tm0, [], 0, false⟩ : Ins) (.slice none 0 0)) 43; rw [show (w.alloc (.cells (nodeCells (.mk 13 tx nm p ks) (.slice ua un uc)).toArray 25)).heap.size = w.heap.size + 1 by simp] at h; exact h.drew),
      Lib.hid (((Blk.new w _ _).alloc _).alloc _).drew, Lib.hid ((((hk.mono (S' := fun b => b < w.heap.size) fun b _ hl => hl).alloc _).alloc _).alloc _).drew, Lib.hid ((Blk.new2 w _ _ _).alloc _).drew, Lib.hid ((((Below.refl _ _).alloc (Nat.le_refl _) _).alloc (by simp) _).alloc (by simp; omega) _).drew⟩
  clear hk
  unfold NodeV
  simp only [kind_mk, text_mk, num_mk, place_mk]
  go_enter Tryd.func82, Tryd.ntmps82
  go_wp2_with fail
  refine AnyE.begin3 (S := fun W => Blk W w.heap.size (nodeCells (.mk 13 tx nm p ks) (.slice ua un uc)) 25) hW0 (by kernel_rfl) HF0.out (fun hS => ?_)
  clear hW0
  refine AnyE.take (i := 0) (v := .pointer (some ⟨w.heap.size, 1, none⟩)) rfl (by kernel_rfl) (by kernel_rfl) (by kernel_rfl) (by kernel_rfl) (fun _ _ _ h => h) (Or.inl ⟨by rfl, fun W _ => by go_simp⟩) hS ?_
  refine AnyE.take (i := 1) (v := .string tx) rfl (by kernel_rfl) (by kernel_rfl) (by kernel_rfl) (by kernel_rfl) (fun _ _ _ h => h) (Or.inl ⟨by rfl, fun W hW => by have hcx : W.cell? ⟨w.heap.size, 1, none⟩ = some (.string tx) := hW.cell 1; go_simp⟩) hS ?_
  refine AnyE.take (i := 2) (v := .pointer (some ⟨w.heap.size, 2, none⟩)) rfl (by kernel_rfl) (by kernel_rfl) (by kernel_rfl) (by kernel_rfl) (fun _ _ _ h => h) (Or.inl ⟨by rfl, fun W _ => by go_simp⟩) hS ?_
  refine AnyE.take (i := 3) (v := .int .i64 nm) rfl (by kernel_rfl) (by kernel_rfl) (by kernel_rfl) (by kernel_rfl) (fun _ _ _ h => h) (Or.inl ⟨by rfl, fun W hW => by have hcx : W.cell? ⟨w.heap.size, 2, none⟩ = some (.int .i64 nm) := hW.cell 2; go_simp⟩) hS ?_
  refine AnyE.take (i := 4) (v := .agg #[.string ⟨#[]⟩, .int .i64 nm]) rfl (by kernel_rfl) (by kernel_rfl) (by kernel_rfl) (by kernel_rfl) (fun _ _ _ h => h) (Or.inl ⟨by rfl, fun W _ => by go_simp⟩) hS ?_
  refine AnyE.take (i := 5) (v := .pointer (some ⟨w.heap.size + 1 + 1, 0, none⟩)) rfl (by kernel_rfl) (by kernel_rfl) (by kernel_rfl) (by kernel_rfl) (fun _ _ _ h => h) (Or.inl ⟨by rfl, fun W _ => by go_simp⟩) hS ?_
  refine AnyE.one (i := 6) (by kernel_rfl) rfl (by rfl) (fun K hK => ?_)
  have hcx : W0.cell? ⟨w.heap.size + 1 + 1, 0, none⟩ = some (.int .i64 0) := HI0.out.cell 0
  have hfx := HI0.out.frozen 0
  go_simp
  clear hcx hfx
  have HI1 := Lib.hid (show Blk _ _ (insCells (⟨8, p, e0, e0, tm0, tm0, [], 0, false⟩ : Ins) (.slice none 0 0)) 43 from HI0.out.setSame 0 (.int .i64 8))
  have HF1 := Lib.hid (HF0.out.setOther ⟨w.heap.size + 1 + 1, 0, none⟩ (.int .i64 8) (by show w.heap.size ≠ w.heap.size + 1 + 1; omega))
  have HU1 := Lib.hid (HU0.out.keep (S' := fun b => b < w.heap.size) (w' := W0.setCell ⟨w.heap.size + 1 + 1, 0, none⟩ (.int .i64 8)) fun b hb hl => ⟨hb, Below.heap_setCell _ _ _ _ (by show b ≠ w.heap.size + 1 + 1; omega)⟩)
  have HR1 := Lib.hid (HR0.out.setOther ⟨w.heap.size + 1 + 1, 0, none⟩ (.int .i64 8) (by show w.heap.size + 1 ≠ w.heap.size + 1 + 1; omega))
  have HB1 := Lib.hid (HB0.out.setCell (p := ⟨w.heap.size + 1 + 1, 0, none⟩) (by show w.heap.size ≤ w.heap.size + 1 + 1; omega) (.int .i64 8))
  generalize W0.setCell ⟨w.heap.size + 1 + 1, 0, none⟩ (.int .i64 8) = W1 at HI1 HF1 HU1 HR1 HB1 ⊢
  refine hK.out _ _ (fun _ => HF1.out) ?_
  clear hK K
  refine AnyE.one (i := 7) (by kernel_rfl) rfl (by rfl) (fun K hK => ?_)
  go_simp
  refine hK.out _ _ (fun _ => HF1.out) ?_
  clear hK K
  refine AnyE.one (i := 8) (by kernel_rfl) rfl (by rfl) (fun K hK => ?_)
  have hcx : W1.cell? ⟨w.heap.size + 1 + 1, 3, none⟩ = some (.string ⟨#[]⟩) := HI1.out.cell 3
  have hfx := HI1.out.frozen 3
  go_simp
  clear hcx hfx
  have HI2 := Lib.hid (show Blk _ _ (insCells (⟨8, p, e0, tx, tm0, tm0, [], 0, false⟩ : Ins) (.slice none 0 0)) 43 from HI1.out.setSame 3 (.string tx))
  have HF2 := Lib.hid (HF1.out.setOther ⟨w.heap.size + 1 + 1, 3, none⟩ (.string tx) (by show w.heap.size ≠ w.heap.size + 1 + 1; omega))
  have HU2 := Lib.hid (HU1.out.keep (S' := fun b => b < w.heap.size) (w' := W1.setCell ⟨w.heap.size + 1 + 1, 3, none⟩ (.string tx)) fun b hb hl => ⟨hb, Below.heap_setCell _ _ _ _ (by show b ≠ w.heap.size + 1 + 1; omega)⟩)
  have HR2 := Lib.hid (HR1.out.setOther ⟨w.heap.size + 1 + 1, 3, none⟩ (.string tx) (by show w.heap.size + 1 ≠ w.heap.size + 1 + 1; omega))
  have HB2 := Lib.hid (HB1.out.setCell (p := ⟨w.heap.size + 1 + 1, 3, none⟩) (by show w.heap.size ≤ w.heap.size + 1 + 1; omega) (.string tx))
  generalize W1.setCell ⟨w.heap.size + 1 + 1, 3, none⟩ (.string tx) = W2 at HI2 HF2 HU2 HR2 HB2 ⊢
  refine hK.out _ _ (fun _ => HF2.out) ?_
  clear hK K
  refine AnyE.one (i := 9) (by kernel_rfl) rfl (by rfl) (fun K hK => ?_)
  go_simp
  refine hK.out _ _ (fun _ => HF2.out) ?_
  clear hK K
  refine AnyE.one (i := 10) (by kernel_rfl) rfl (by rfl) (fun K hK => ?_)
  refine wp_store_mid 40 (.tmp 39) (.tmp 36) rfl (w.heap.size + 1 + 1) 4 #[.string ((⟨e0, nm⟩ : Tm)).name, .int .i64 ((⟨e0, nm⟩ : Tm)).num] rfl rfl (HI2.out.thereN 4 2 (show 4 + 2 ≤ 11 by omega)) Tryd.sizeTerm (all_oneCell_toArray (tmCells_one ((⟨e0, nm⟩ : Tm)))) ?_
  have HI3 := Lib.hid (show Blk (W2.setCells (w.heap.size + 1 + 1) 4 [.string ((⟨e0, nm⟩ : Tm)).name, .int .i64 ((⟨e0, nm⟩ : Tm)).num]) _ (insCells (⟨8, p, e0, tx, (⟨e0, nm⟩ : Tm), tm0, [], 0, false⟩ : Ins) (.slice none 0 0)) 43 from HI2.out.setCells2 4 _ _)
  have HF3 := Lib.hid (show Blk (W2.setCells (w.heap.size + 1 + 1) 4 [.string ((⟨e0, nm⟩ : Tm)).name, .int .i64 ((⟨e0, nm⟩ : Tm)).num]) _ _ _ from HF2.out.other2 (by omega) 4 _ _)
  have HR3 := Lib.hid (show Blk (W2.setCells (w.heap.size + 1 + 1) 4 [.string ((⟨e0, nm⟩ : Tm)).name, .int .i64 ((⟨e0, nm⟩ : Tm)).num]) _ _ _ from HR2.out.other2 (by omega) 4 _ _)
  have HB3 := Lib.hid (show Below _ _ (W2.setCells (w.heap.size + 1 + 1) 4 [.string ((⟨e0, nm⟩ : Tm)).name, .int .i64 ((⟨e0, nm⟩ : Tm)).num]) from Below.cells2 HB2.out (by omega) 4 _ _)
  refine hK.out _ _ (fun h => absurd rfl h) ?_
  clear hK K
  refine AnyE.done (by kernel_rfl) ?_ _
  go_wp2_with (first
    | ((with_reducible refine at_ld 43 (.tmp 4) ?_); refine wpList_load_blk rfl 43 (.tmp 4) rfl (w.heap.size + 1 + 1) (insCells (⟨8, p, e0, tx, (⟨e0, nm⟩ : Tm), tm0, [], 0, false⟩ : Ins) (.slice none 0 0)) rfl HI3.out Tryd.underlying43 rfl Tryd.sizeInstr ?_)
    | ((with_reducible refine at_st 43 (.tmp 2) ?_); refine wpList_store_blk rfl 43 (.tmp 2) (.tmp 84) rfl (w.heap.size + 1) (insCells (⟨8, p, e0, tx, (⟨e0, nm⟩ : Tm), tm0, [], 0, false⟩ : Ins) (.slice none 0 0)) rfl rfl HR3.out Tryd.sizeInstr rfl (insCells_one _ _ rfl) ?_))
  exact ret_cell_tmp (cs := (insCells (⟨8, p, e0, tx, (⟨e0, nm⟩ : Tm), tm0, [], 0, false⟩ : Ins) (.slice none 0 0))) Tryd.results82 rfl (HR3.out.rowSame _) Tryd.underlying43 rfl Tryd.sizeInstr rfl rfl ⟨_, rfl, ArgsAt.nil _ _, Below.row HB3.out (by omega) _⟩

set_option maxRecDepth 100000 in
set_option maxHeartbeats 2000000 in
theorem simple_14 {w : World} {tx : ByteArray} {nm : Int} {p : Nat} {ks : List T} {S : Nat → Prop} {kv : Value} (hk : KAt 25 w ks S kv) :
    simpleI (.mk 14 tx nm p ks) = some (⟨9, p, e0, tx, ⟨e0, nm⟩, tm0, [], 0, false⟩ : Ins) ∧ Calls Tryd.prog 82 #[NodeV (.mk 14 tx nm p ks) kv] w (SimplePost w (⟨9, p, e0, tx, ⟨e0, nm⟩, tm0, [], 0, false⟩ : Ins)) := by
  refine ⟨rfl, ?_⟩
  obtain ⟨ua, un, uc, rfl⟩ := hk.slice
  obtain ⟨W0, hW0, HI0, HF0, HU0, HR0, HB0⟩ : ∃ W0 : World, (((w.alloc (.cells (nodeCells (.mk 14 tx nm p ks) (.slice ua un uc)).toArray 25)).alloc (.cells (insCells ins0 (.slice none 0 0)).toArray 43)).alloc (.cells (insCells (⟨0, p, e0, e0, tm0, tm0, [], 0, false⟩ : Ins) (.slice none 0 0)).toArray 43)).drew = W0 ∧ Hid (Blk W0 (w.heap.size + 1 + 1) (insCells (⟨0, p, e0, e0, tm0, tm0, [], 0, false⟩ : Ins) (.slice none 0 0)) 43) ∧ Hid (Blk W0 w.heap.size (nodeCells (.mk 14 tx nm p ks) (.slice ua un uc)) 25) ∧ Hid (KAt 25 W0 ks (fun b => b < w.heap.size) (.slice ua un uc)) ∧ Hid (Blk W0 (w.heap.size + 1) (insCells ins0 (.slice none 0 0)) 43) ∧ Hid (Below w.heap.size w W0) :=
    ⟨_, rfl, Lib.hid (by have h := Blk.new2 (w.alloc (.cells (nodeCells (.mk 14 tx nm p ks) (.slice ua un uc)).toArray 25)) (.cells (insCells ins0 (.slice none 0 0)).toArray 43) (insCells (⟨0, p, e0, e0, tm0, tm0, [], 0, false⟩ : Ins) (.slice none 0 0)) 43; rw [show (w.alloc (.cells (nodeCells (.mk 14 tx nm p ks) (.slice ua un uc)).toArray 25)).heap.size = w.heap.size + 1 by simp] at h; exact h.drew),
      Lib.hid (((Blk.new w _ _).alloc _).alloc _).drew, Lib.hid ((((hk.mono (S' := fun b => b < w.heap.size) fun b _ hl => hl).alloc _).alloc _).alloc _).drew, Lib.hid ((Blk.new2 w _ _ _).alloc _).drew, Lib.hid ((((Below.refl _ _).alloc (Nat.le_refl _) _).alloc (by simp) _).alloc (by simp; omega) _).drew⟩
  clear hk
  unfold NodeV
  simp only [kind_mk, text_mk, num_mk, place_mk]
  go_enter Tryd.func82, Tryd.ntmps82
  go_wp2_with fail
  refine AnyE.begin3 (S := fun W => Blk W w.heap.size (nodeCells (.mk 14 tx nm p ks) (.slice ua un uc)) 25) hW0 (by kernel_rfl) HF0.out (fun hS => ?_)
  clear hW0
  refine AnyE.take (i := 0) (v := .pointer (some ⟨w.heap.size, 1, none⟩)) rfl (by kernel_rfl) (by kernel_rfl) (by kernel_rfl) (by kernel_rfl) (fun _ _ _ h => h) (Or.inl ⟨by rfl, fun W _ => by go_simp⟩) hS ?_
  refine AnyE.take (i := 1) (v := .string tx) rfl (by kernel_rfl) (by kernel_rfl) (by kernel_rfl) (by kernel_rfl) (fun _ _ _ h => h) (Or.inl ⟨by rfl, fun W hW => by have hcx : W.cell? ⟨w.heap.size, 1, none⟩ = some (.string tx) := hW.cell 1; go_simp⟩) hS ?_
  refine AnyE.take (i := 2) (v := .pointer (some ⟨w.heap.size, 2, none⟩)) rfl (by kernel_rfl) (by kernel_rfl) (by kernel_rfl) (by kernel_rfl) (fun _ _ _ h => h) (Or.inl ⟨by rfl, fun W _ => by go_simp⟩) hS ?_
  refine AnyE.take (i := 3) (v := .int .i64 nm) rfl (by kernel_rfl) (by kernel_rfl) (by kernel_rfl) (by kernel_rfl) (fun _ _ _ h => h) (Or.inl ⟨by rfl, fun W hW => by have hcx : W.cell? ⟨w.heap.size, 2, none⟩ = some (.int .i64 nm) := hW.cell 2; go_simp⟩) hS ?_
  refine AnyE.take (i := 4) (v := .agg #[.string ⟨#[]⟩, .int .i64 nm]) rfl (by kernel_rfl) (by kernel_rfl) (by kernel_rfl) (by kernel_rfl) (fun _ _ _ h => h) (Or.inl ⟨by rfl, fun W _ => by go_simp⟩) hS ?_
  refine AnyE.take (i := 5) (v := .pointer (some ⟨w.heap.size + 1 + 1, 0, none⟩)) rfl (by kernel_rfl) (by kernel_rfl) (by kernel_rfl) (by kernel_rfl) (fun _ _ _ h => h) (Or.inl ⟨by rfl, fun W _ => by go_simp⟩) hS ?_
  refine AnyE.one (i := 6) (by kernel_rfl) rfl (by rfl) (fun K hK => ?_)
  have hcx : W0.cell? ⟨w.heap.size + 1 + 1, 0, none⟩ = some (.int .i64 0) := HI0.out.cell 0
  have hfx := HI0.out.frozen 0
  go_simp
  clear hcx hfx
  have HI1 := Lib.hid (show Blk _ _ (insCells (⟨9, p, e0, e0, tm0, tm0, [], 0, false⟩ : Ins) (.slice none 0 0)) 43 from HI0.out.setSame 0 (.int .i64 9))
  have HF1 := Lib.hid (HF0.out.setOther ⟨w.heap.size + 1 + 1, 0, none⟩ (.int .i64 9) (by show w.heap.size ≠ w.heap.size + 1 + 1; omega))
  have HU1 := Lib.hid (HU0.out.keep (S' := fun b => b < w.heap.size) (w' := W0.setCell ⟨w.heap.size + 1 + 1, 0, none⟩ (.int .i64 9)) fun b hb hl => ⟨hb, Below.heap_setCell _ _ _ _ (by show b ≠ w.heap.size + 1 + 1; omega)⟩)
  have HR1 := Lib.hid (HR0.out.setOther ⟨w.heap.size + 1 + 1, 0, none⟩ (.int .i64 9) (by show w.heap.size + 1 ≠ w.heap.size + 1 + 1; omega))
  have HB1 := Lib.hid (HB0.out.setCell (p := ⟨w.heap.size + 1 + 1, 0, none⟩) (by show w.heap.size ≤ w.heap.size + 1 + 1; omega) (.int .i64 9))
  generalize W0.setCell ⟨w.heap.size + 1 + 1, 0, none⟩ (.int .i64 9) = W1 at HI1 HF1 HU1 HR1 HB1 ⊢
  refine hK.out _ _ (fun _ => HF1.out) ?_
  clear hK K
  refine AnyE.one (i := 7) (by kernel_rfl) rfl (by rfl) (fun K hK => ?_)
  go_simp
  refine hK.out _ _ (fun _ => HF1.out) ?_
  clear hK K
  refine AnyE.one (i := 8) (by kernel_rfl) rfl (by rfl) (fun K hK => ?_)
  have hcx : W1.cell? ⟨w.heap.size + 1 + 1, 3, none⟩ = some (.string ⟨#[]⟩) := HI1.out.cell 3
  have hfx := HI1.out.frozen 3
  go_simp
  clear hcx hfx
  have HI2 := Lib.hid (show Blk _ _ (insCells (⟨9, p, e0, tx, tm0, tm0, [], 0, false⟩ : Ins) (.slice none 0 0)) 43 from HI1.out.setSame 3 (.string tx))
  have HF2 := Lib.hid (HF1.out.setOther ⟨w.heap.size + 1 + 1, 3, none⟩ (.string tx) (by show w.heap.size ≠ w.heap.size + 1 + 1; omega))
  have HU2 := Lib.hid (HU1.out.keep (S' := fun b => b < w.heap.size) (w' := W1.setCell ⟨w.heap.size + 1 + 1, 3, none⟩ (.string tx)) fun b hb hl => ⟨hb, Below.heap_setCell _ _ _ _ (by show b ≠ w.heap.size + 1 + 1; omega)⟩)
  have HR2 := Lib.hid (HR1.out.setOther ⟨w.heap.size + 1 + 1, 3, none⟩ (.string tx) (by show w.heap.size + 1 ≠ w.heap.size + 1 + 1; omega))
  have HB2 := Lib.hid (HB1.out.setCell (p := ⟨w.heap.size + 1 + 1, 3, none⟩) (by show w.heap.size ≤ w.heap.size + 1 + 1; omega) (.string tx))
  generalize W1.setCell ⟨w.heap.size + 1 + 1, 3, none⟩ (.string tx) = W2 at HI2 HF2 HU2 HR2 HB2 ⊢
  refine hK.out _ _ (fun _ => HF2.out) ?_
  clear hK K
  refine AnyE.one (i := 9) (by kernel_rfl) rfl (by rfl) (fun K hK => ?_)
  go_simp
  refine hK.out _ _ (fun _ => HF2.out) ?_
  clear hK K
  refine AnyE.one (i := 10) (by kernel_rfl) rfl (by rfl) (fun K hK => ?_)
  refine wp_store_mid 40 (.tmp 49) (.tmp 46) rfl (w.heap.size + 1 + 1) 4 #[.string ((⟨e0, nm⟩ : Tm)).name, .int .i64 ((⟨e0, nm⟩ : Tm)).num] rfl rfl (HI2.out.thereN 4 2 (show 4 + 2 ≤ 11 by omega)) Tryd.sizeTerm (all_oneCell_toArray (tmCells_one ((⟨e0, nm⟩ : Tm)))) ?_
  have HI3 := Lib.hid (show Blk (W2.setCells (w.heap.size + 1 + 1) 4 [.string ((⟨e0, nm⟩ : Tm)).name, .int .i64 ((⟨e0, nm⟩ : Tm)).num]) _ (insCells (⟨9, p, e0, tx, (⟨e0, nm⟩ : Tm), tm0, [], 0, false⟩ : Ins) (.slice none 0 0)) 43 from HI2.out.setCells2 4 _ _)
  have HF3 := Lib.hid (show Blk (W2.setCells (w.heap.size + 1 + 1) 4 [.string ((⟨e0, nm⟩ : Tm)).name, .int .i64 ((⟨e0, nm⟩ : Tm)).num]) _ _ _ from HF2.out.other2 (by omega) 4 _ _)
  have HR3 := Lib.hid (show Blk (W2.setCells (w.heap.size + 1 + 1) 4 [.string ((⟨e0, nm⟩ : Tm)).name, .int .i64 ((⟨e0, nm⟩ : Tm)).num]) _ _ _ from HR2.out.other2 (by omega) 4 _ _)
  have HB3 := Lib.hid (show Below _ _ (W2.setCells (w.heap.size + 1 + 1) 4 [.string ((⟨e0, nm⟩ : Tm)).name, .int .i64 ((⟨e0, nm⟩ : Tm)).num]) from Below.cells2 HB2.out (by omega) 4 _ _)
  refine hK.out _ _ (fun h => absurd rfl h) ?_
  clear hK K
  refine AnyE.done (by kernel_rfl) ?_ _
  go_wp2_with (first
    | ((with_reducible refine at_ld 43 (.tmp 4) ?_); refine wpList_load_blk rfl 43 (.tmp 4) rfl (w.heap.size + 1 + 1) (insCells (⟨9, p, e0, tx, (⟨e0, nm⟩ : Tm), tm0, [], 0, false⟩ : Ins) (.slice none 0 0)) rfl HI3.out Tryd.underlying43 rfl Tryd.sizeInstr ?_)
    | ((with_reducible refine at_st 43 (.tmp 2) ?_); refine wpList_store_blk rfl 43 (.tmp 2) (.tmp 84) rfl (w.heap.size + 1) (insCells (⟨9, p, e0, tx, (⟨e0, nm⟩ : Tm), tm0, [], 0, false⟩ : Ins) (.slice none 0 0)) rfl rfl HR3.out Tryd.sizeInstr rfl (insCells_one _ _ rfl) ?_))
  exact ret_cell_tmp (cs := (insCells (⟨9, p, e0, tx, (⟨e0, nm⟩ : Tm), tm0, [], 0, false⟩ : Ins) (.slice none 0 0))) Tryd.results82 rfl (HR3.out.rowSame _) Tryd.underlying43 rfl Tryd.sizeInstr rfl rfl ⟨_, rfl, ArgsAt.nil _ _, Below.row HB3.out (by omega) _⟩

set_option maxRecDepth 100000 in
set_option maxHeartbeats 2000000 in
theorem simple_17 {w : World} {tx : ByteArray} {nm : Int} {p : Nat} {ks : List T} {S : Nat → Prop} {kv : Value} (hk : KAt 25 w ks S kv) (hn : ∀ a n c, kv = .slice a n c → n = ks.length) :
    simpleI (.mk 17 tx nm p ks) = some (⟨14, p, e0, e0, tmOf (kidP (.mk 17 tx nm p ks) 0), tm0, [], 0, decide (0 < ks.length)⟩ : Ins) ∧ Calls Tryd.prog 82 #[NodeV (.mk 17 tx nm p ks) kv] w (SimplePost w (⟨14, p, e0, e0, tmOf (kidP (.mk 17 tx nm p ks) 0), tm0, [], 0, decide (0 < ks.length)⟩ : Ins)) := by
  refine ⟨rfl, ?_⟩
  obtain ⟨ua, un, uc, rfl⟩ := hk.slice
  obtain rfl : un = ks.length := hn _ _ _ rfl
  clear hn
  obtain ⟨W0, hW0, HI0, HF0, HU0, HR0, HB0⟩ : ∃ W0 : World, (((w.alloc (.cells (nodeCells (.mk 17 tx nm p ks) (.slice ua ks.length uc)).toArray 25)).alloc (.cells (insCells ins0 (.slice none 0 0)).toArray 43)).alloc (.cells (insCells (⟨0, p, e0, e0, tm0, tm0, [], 0, false⟩ : Ins) (.slice none 0 0)).toArray 43)).drew = W0 ∧ Hid (Blk W0 (w.heap.size + 1 + 1) (insCells (⟨0, p, e0, e0, tm0, tm0, [], 0, false⟩ : Ins) (.slice none 0 0)) 43) ∧ Hid (Blk W0 w.heap.size (nodeCells (.mk 17 tx nm p ks) (.slice ua ks.length uc)) 25) ∧ Hid (KAt 25 W0 ks (fun b => b < w.heap.size) (.slice ua ks.length uc)) ∧ Hid (Blk W0 (w.heap.size + 1) (insCells ins0 (.slice none 0 0)) 43) ∧ Hid (Below w.heap.size w W0) :=
    ⟨_, rfl, Lib.hid (by have h := Blk.new2 (w.alloc (.cells (nodeCells (.mk 17 tx nm p ks) (.slice ua ks.length uc)).toArray 25)) (.cells (insCells ins0 (.slice none 0 0)).toArray 43) (insCells (⟨0, p, e0, e0, tm0, tm0, [], 0, false⟩ : Ins) (.slice none 0 0)) 43; rw [show (w.alloc (.cells (nodeCells (.mk 17 tx nm p ks) (.slice ua ks.length uc)).toArray 25)).heap.size = w.heap.size + 1 by simp] at h; exact h.drew),
      Lib.hid (((Blk.new w _ _).alloc _).alloc _).drew, Lib.hid ((((hk.mono (S' := fun b => b < w.heap.size) fun b _ hl => hl).alloc _).alloc _).alloc _).drew, Lib.hid ((Blk.new2 w _ _ _).alloc _).drew, Lib.hid ((((Below.refl _ _).alloc (Nat.le_refl _) _).alloc (by simp) _).alloc (by simp; omega) _).drew⟩
  clear hk
  unfold NodeV
  simp only [kind_mk, text_mk, num_mk, place_mk]
  go_enter Tryd.func82, Tryd.ntmps82
  go_wp2_with fail
  refine AnyE.begin3 (S := fun W => Blk W w.heap.size (nodeCells (.mk 17 tx nm p ks) (.slice ua ks.length uc)) 25) hW0 (by kernel_rfl) HF0.out (fun hS => ?_)
  clear hW0
  refine AnyE.take (i := 0) (v := .pointer (some ⟨w.heap.size, 4, none⟩)) rfl (by kernel_rfl) (by kernel_rfl) (by kernel_rfl) (by kernel_rfl) (fun _ _ _ h => h) (Or.inl ⟨by rfl, fun W _ => by go_simp⟩) hS ?_
  refine AnyE.take (i := 1) (v := .slice ua ks.length uc) rfl (by kernel_rfl) (by kernel_rfl) (by kernel_rfl) (by kernel_rfl) (fun _ _ _ h => h) (Or.inl ⟨by rfl, fun W hW => by have hcx : W.cell? ⟨w.heap.size, 4, none⟩ = some (.slice ua ks.length uc) := hW.cell 4; go_simp⟩) hS ?_
  refine AnyE.take (i := 2) (v := .int .i64 ks.length) rfl (by kernel_rfl) (by kernel_rfl) (by kernel_rfl) (by kernel_rfl) (fun _ _ _ h => h) (Or.inl ⟨by rfl, fun W _ => by go_simp⟩) hS ?_
  refine AnyE.take (i := 3) (v := .bool (decide (0 < ks.length))) rfl (by kernel_rfl) (by kernel_rfl) (by kernel_rfl) (by kernel_rfl) (fun _ _ _ h => h) (Or.inl ⟨by rfl, fun W _ => by go_simp⟩) hS ?_
  refine AnyE.take (i := 4) (v := .agg #[.int .i64 17, .string tx, .int .i64 nm, .int .i64 p, .slice ua ks.length uc]) rfl (by kernel_rfl) (by kernel_rfl) (by kernel_rfl) (by kernel_rfl) (fun _ _ _ h => h) (yieldsIf_load_mid (cs := (nodeCells (.mk 17 tx nm p ks) (.slice ua ks.length uc))) (by rfl) 25 (.tmp 1) rfl (w.heap.size) 0 rfl _ (fun W hW j v hj => by rw [Nat.zero_add, hW.cell j]; exact hj) Tryd.underlying25 rfl Tryd.sizeNode) hS ?_
  refine AnyE.take (i := 6) (v := .pointer (some ⟨w.heap.size + 1 + 1, 0, none⟩)) rfl (by kernel_rfl) (by kernel_rfl) (by kernel_rfl) (by kernel_rfl) (fun _ _ _ h => h) (Or.inl ⟨by rfl, fun W _ => by go_simp⟩) hS ?_
  refine AnyE.one (i := 5) (by kernel_rfl) rfl (by rfl) (fun K hK => ?_)
  go_simp
  refine (termOf_any (t := (.mk 17 tx nm p ks)) HU0.out 0).mono ?_
  rintro e W1 ⟨rfl, hb⟩
  have HI1 := Lib.hid (HI0.out.stays hb)
  have HF1 := Lib.hid (HF0.out.stays hb)
  have HU1 := Lib.hid (HU0.out.below hb)
  have HR1 := Lib.hid (HR0.out.stays hb)
  have HB1 := Lib.hid (HB0.out.trans (hb.mono HB0.out.size))
  clear hb
  unfold TmV
  refine hK.out _ _ (fun _ => HF1.out) ?_
  clear hK K
  refine AnyE.one (i := 7) (by kernel_rfl) rfl (by rfl) (fun K hK => ?_)
  have hcx : W1.cell? ⟨w.heap.size + 1 + 1, 0, none⟩ = some (.int .i64 0) := HI1.out.cell 0
  have hfx := HI1.out.frozen 0
  go_simp
  clear hcx hfx
  have HI2 := Lib.hid (show Blk _ _ (insCells (⟨14, p, e0, e0, tm0, tm0, [], 0, false⟩ : Ins) (.slice none 0 0)) 43 from HI1.out.setSame 0 (.int .i64 14))
  have HF2 := Lib.hid (HF1.out.setOther ⟨w.heap.size + 1 + 1, 0, none⟩ (.int .i64 14) (by show w.heap.size ≠ w.heap.size + 1 + 1; omega))
  have HU2 := Lib.hid (HU1.out.keep (S' := fun b => b < w.heap.size) (w' := W1.setCell ⟨w.heap.size + 1 + 1, 0, none⟩ (.int .i64 14)) fun b hb hl => ⟨hb, Below.heap_setCell _ _ _ _ (by show b ≠ w.heap.size + 1 + 1; omega)⟩)
  have HR2 := Lib.hid (HR1.out.setOther ⟨w.heap.size + 1 + 1, 0, none⟩ (.int .i64 14) (by show w.heap.size + 1 ≠ w.heap.size + 1 + 1; omega))
  have HB2 := Lib.hid (HB1.out.setCell (p := ⟨w.heap.size + 1 + 1, 0, none⟩) (by show w.heap.size ≤ w.heap.size + 1 + 1; omega) (.int .i64 14))
  generalize W1.setCell ⟨w.heap.size + 1 + 1, 0, none⟩ (.int .i64 14) = W2 at HI2 HF2 HU2 HR2 HB2 ⊢
  refine hK.out _ _ (fun _ => HF2.out) ?_
  clear hK K
  refine AnyE.one (i := 8) (by kernel_rfl) rfl (by rfl) (fun K hK => ?_)
  go_simp
  refine hK.out _ _ (fun _ => HF2.out) ?_
  clear hK K
  refine AnyE.one (i := 9) (by kernel_rfl) rfl (by rfl) (fun K hK => ?_)
  have hcx : W2.cell? ⟨w.heap.size + 1 + 1, 10, none⟩ = some (.bool false) := HI2.out.cell 10
  have hfx := HI2.out.frozen 10
  go_simp
  clear hcx hfx
  have HI3 := Lib.hid (show Blk _ _ (insCells (⟨14, p, e0, e0, tm0, tm0, [], 0, decide (0 < ks.length)⟩ : Ins) (.slice none 0 0)) 43 from HI2.out.setSame 10 (.bool (decide (0 < ks.length))))
  have HF3 := Lib.hid (HF2.out.setOther ⟨w.heap.size + 1 + 1, 10, none⟩ (.bool (decide (0 < ks.length))) (by show w.heap.size ≠ w.heap.size + 1 + 1; omega))
  have HU3 := Lib.hid (HU2.out.keep (S' := fun b => b < w.heap.size) (w' := W2.setCell ⟨w.heap.size + 1 + 1, 10, none⟩ (.bool (decide (0 < ks.length)))) fun b hb hl => ⟨hb, Below.heap_setCell _ _ _ _ (by show b ≠ w.heap.size + 1 + 1; omega)⟩)
  have HR3 := Lib.hid (HR2.out.setOther ⟨w.heap.size + 1 + 1, 10, none⟩ (.bool (decide (0 < ks.length))) (by show w.heap.size + 1 ≠ w.heap.size + 1 + 1; omega))
  have HB3 := Lib.hid (HB2.out.setCell (p := ⟨w.heap.size + 1 + 1, 10, none⟩) (by show w.heap.size ≤ w.heap.size + 1 + 1; omega) (.bool (decide (0 < ks.length))))
  generalize W2.setCell ⟨w.heap.size + 1 + 1, 10, none⟩ (.bool (decide (0 < ks.length))) = W3 at HI3 HF3 HU3 HR3 HB3 ⊢
  refine hK.out _ _ (fun _ => HF3.out) ?_
  clear hK K
  refine AnyE.one (i := 10) (by kernel_rfl) rfl (by rfl) (fun K hK => ?_)
  go_simp
  refine hK.out _ _ (fun _ => HF3.out) ?_
  clear hK K
  refine AnyE.one (i := 11) (by kernel_rfl) rfl (by rfl) (fun K hK => ?_)
  refine wp_store_mid 40 (.tmp 80) (.tmp 77) rfl (w.heap.size + 1 + 1) 4 #[.string (tmOf (kidP (.mk 17 tx nm p ks) 0)).name, .int .i64 (tmOf (kidP (.mk 17 tx nm p ks) 0)).num] rfl rfl (HI3.out.thereN 4 2 (show 4 + 2 ≤ 11 by omega)) Tryd.sizeTerm (all_oneCell_toArray (tmCells_one (tmOf (kidP (.mk 17 tx nm p ks) 0)))) ?_
  have HI4 := Lib.hid (show Blk (W3.setCells (w.heap.size + 1 + 1) 4 [.string (tmOf (kidP (.mk 17 tx nm p ks) 0)).name, .int .i64 (tmOf (kidP (.mk 17 tx nm p ks) 0)).num]) _ (insCells (⟨14, p, e0, e0, tmOf (kidP (.mk 17 tx nm p ks) 0), tm0, [], 0, decide (0 < ks.length)⟩ : Ins) (.slice none 0 0)) 43 from HI3.out.setCells2 4 _ _)
  have HF4 := Lib.hid (show Blk (W3.setCells (w.heap.size + 1 + 1) 4 [.string (tmOf (kidP (.mk 17 tx nm p ks) 0)).name, .int .i64 (tmOf (kidP (.mk 17 tx nm p ks) 0)).num]) _ _ _ from HF3.out.other2 (by omega) 4 _ _)
  have HR4 := Lib.hid (show Blk (W3.setCells (w.heap.size + 1 + 1) 4 [.string (tmOf (kidP (.mk 17 tx nm p ks) 0)).name, .int .i64 (tmOf (kidP (.mk 17 tx nm p ks) 0)).num]) _ _ _ from HR3.out.other2 (by omega) 4 _ _)
  have HB4 := Lib.hid (show Below _ _ (W3.setCells (w.heap.size + 1 + 1) 4 [.string (tmOf (kidP (.mk 17 tx nm p ks) 0)).name, .int .i64 (tmOf (kidP (.mk 17 tx nm p ks) 0)).num]) from Below.cells2 HB3.out (by omega) 4 _ _)
  refine hK.out _ _ (fun h => absurd rfl h) ?_
  clear hK K
  refine AnyE.done (by kernel_rfl) ?_ _
  go_wp2_with (first
    | ((with_reducible refine at_ld 43 (.tmp 4) ?_); refine wpList_load_blk rfl 43 (.tmp 4) rfl (w.heap.size + 1 + 1) (insCells (⟨14, p, e0, e0, tmOf (kidP (.mk 17 tx nm p ks) 0), tm0, [], 0, decide (0 < ks.length)⟩ : Ins) (.slice none 0 0)) rfl HI4.out Tryd.underlying43 rfl Tryd.sizeInstr ?_)
    | ((with_reducible refine at_st 43 (.tmp 2) ?_); refine wpList_store_blk rfl 43 (.tmp 2) (.tmp 84) rfl (w.heap.size + 1) (insCells (⟨14, p, e0, e0, tmOf (kidP (.mk 17 tx nm p ks) 0), tm0, [], 0, decide (0 < ks.length)⟩ : Ins) (.slice none 0 0)) rfl rfl HR4.out Tryd.sizeInstr rfl (insCells_one _ _ rfl) ?_))
  exact ret_cell_tmp (cs := (insCells (⟨14, p, e0, e0, tmOf (kidP (.mk 17 tx nm p ks) 0), tm0, [], 0, decide (0 < ks.length)⟩ : Ins) (.slice none 0 0))) Tryd.results82 rfl (HR4.out.rowSame _) Tryd.underlying43 rfl Tryd.sizeInstr rfl rfl ⟨_, rfl, ArgsAt.nil _ _, Below.row HB4.out (by omega) _⟩

set_option maxRecDepth 100000 in
set_option maxHeartbeats 2000000 in
theorem simple_18 {w : World} {tx : ByteArray} {nm : Int} {p : Nat} {ks : List T} {S : Nat → Prop} {kv : Value} (hk : KAt 25 w ks S kv) :
    simpleI (.mk 18 tx nm p ks) = some (⟨15, p, e0, e0, tm0, tm0, [], 0, false⟩ : Ins) ∧ Calls Tryd.prog 82 #[NodeV (.mk 18 tx nm p ks) kv] w (SimplePost w (⟨15, p, e0, e0, tm0, tm0, [], 0, false⟩ : Ins)) := by
  refine ⟨rfl, ?_⟩
  obtain ⟨ua, un, uc, rfl⟩ := hk.slice
  clear hk
  unfold NodeV
  simp only [kind_mk, text_mk, num_mk, place_mk]
  go_enter Tryd.func82, Tryd.ntmps82
  go_wp2_with fail
  exact ret_cell_tmp (cs := (insCells (⟨15, p, e0, e0, tm0, tm0, [], 0, false⟩ : Ins) (.slice none 0 0))) Tryd.results82 rfl ((Blk.new2 w _ _ _).alloc _) Tryd.underlying43 rfl Tryd.sizeInstr rfl rfl ⟨_, rfl, ArgsAt.nil _ _, (((Below.refl _ _).alloc (Nat.le_refl _) _).alloc (by simp) _).alloc (by simp; omega) _⟩

set_option maxRecDepth 100000 in
set_option maxHeartbeats 2000000 in
theorem simple_19 {w : World} {tx : ByteArray} {nm : Int} {p : Nat} {ks : List T} {S : Nat → Prop} {kv : Value} (hk : KAt 25 w ks S kv) (hl : ks.length ≤ 50000) :
    simpleI (.mk 19 tx nm p ks) = some (⟨13, p, e0, tx, tm0, tm0, tmsOf (.mk 19 tx nm p ks), 0, false⟩ : Ins) ∧ Calls Tryd.prog 82 #[NodeV (.mk 19 tx nm p ks) kv] w (SimplePost w (⟨13, p, e0, tx, tm0, tm0, tmsOf (.mk 19 tx nm p ks), 0, false⟩ : Ins)) := by
  refine ⟨rfl, ?_⟩
  obtain ⟨ua, un, uc, rfl⟩ := hk.slice
  obtain ⟨W0, hW0, HI0, HF0, HU0, HR0, HB0⟩ : ∃ W0 : World, (((w.alloc (.cells (nodeCells (.mk 19 tx nm p ks) (.slice ua un uc)).toArray 25)).alloc (.cells (insCells ins0 (.slice none 0 0)).toArray 43)).alloc (.cells (insCells (⟨0, p, e0, e0, tm0, tm0, [], 0, false⟩ : Ins) (.slice none 0 0)).toArray 43)).drew = W0 ∧ Hid (Blk W0 (w.heap.size + 1 + 1) (insCells (⟨0, p, e0, e0, tm0, tm0, [], 0, false⟩ : Ins) (.slice none 0 0)) 43) ∧ Hid (Blk W0 w.heap.size (nodeCells (.mk 19 tx nm p ks) (.slice ua un uc)) 25) ∧ Hid (KAt 25 W0 ks (fun b => b < w.heap.size) (.slice ua un uc)) ∧ Hid (Blk W0 (w.heap.size + 1) (insCells ins0 (.slice none 0 0)) 43) ∧ Hid (Below w.heap.size w W0) :=
    ⟨_, rfl, Lib.hid (by have h := Blk.new2 (w.alloc (.cells (nodeCells (.mk 19 tx nm p ks) (.slice ua un uc)).toArray 25)) (.cells (insCells ins0 (.slice none 0 0)).toArray 43) (insCells (⟨0, p, e0, e0, tm0, tm0, [], 0, false⟩ : Ins) (.slice none 0 0)) 43; rw [show (w.alloc (.cells (nodeCells (.mk 19 tx nm p ks) (.slice ua un uc)).toArray 25)).heap.size = w.heap.size + 1 by simp] at h; exact h.drew),
      Lib.hid (((Blk.new w _ _).alloc _).alloc _).drew, Lib.hid ((((hk.mono (S' := fun b => b < w.heap.size) fun b _ hl => hl).alloc _).alloc _).alloc _).drew, Lib.hid ((Blk.new2 w _ _ _).alloc _).drew, Lib.hid ((((Below.refl _ _).alloc (Nat.le_refl _) _).alloc (by simp) _).alloc (by simp; omega) _).drew⟩
  clear hk
  unfold NodeV
  simp only [kind_mk, text_mk, num_mk, place_mk]
  go_enter Tryd.func82, Tryd.ntmps82
  go_wp2_with fail
  refine AnyE.begin3 (S := fun W => Blk W w.heap.size (nodeCells (.mk 19 tx nm p ks) (.slice ua un uc)) 25) hW0 (by kernel_rfl) HF0.out (fun hS => ?_)
  clear hW0
  refine AnyE.take (i := 0) (v := .pointer (some ⟨w.heap.size, 1, none⟩)) rfl (by kernel_rfl) (by kernel_rfl) (by kernel_rfl) (by kernel_rfl) (fun _ _ _ h => h) (Or.inl ⟨by rfl, fun W _ => by go_simp⟩) hS ?_
  refine AnyE.take (i := 1) (v := .string tx) rfl (by kernel_rfl) (by kernel_rfl) (by kernel_rfl) (by kernel_rfl) (fun _ _ _ h => h) (Or.inl ⟨by rfl, fun W hW => by have hcx : W.cell? ⟨w.heap.size, 1, none⟩ = some (.string tx) := hW.cell 1; go_simp⟩) hS ?_
  refine AnyE.take (i := 2) (v := .agg #[.int .i64 19, .string tx, .int .i64 nm, .int .i64 p, .slice ua un uc]) rfl (by kernel_rfl) (by kernel_rfl) (by kernel_rfl) (by kernel_rfl) (fun _ _ _ h => h) (yieldsIf_load_mid (cs := (nodeCells (.mk 19 tx nm p ks) (.slice ua un uc))) (by rfl) 25 (.tmp 1) rfl (w.heap.size) 0 rfl _ (fun W hW j v hj => by rw [Nat.zero_add, hW.cell j]; exact hj) Tryd.underlying25 rfl Tryd.sizeNode) hS ?_
  refine AnyE.take (i := 4) (v := .pointer (some ⟨w.heap.size + 1 + 1, 0, none⟩)) rfl (by kernel_rfl) (by kernel_rfl) (by kernel_rfl) (by kernel_rfl) (fun _ _ _ h => h) (Or.inl ⟨by rfl, fun W _ => by go_simp⟩) hS ?_
  refine AnyE.one (i := 3) (by kernel_rfl) rfl (by rfl) (fun K hK => ?_)
  go_simp
  refine (termsOf_any (t := (.mk 19 tx nm p ks)) HU0.out hl).mono ?_
  rintro e W1 ⟨va, rfl, ha, hb⟩
  obtain ⟨aa, an, ac, rfl⟩ := ha.slice
  have hz := HI0.out.lt
  have HA1 := Lib.hid (ha.mono (S' := fun b => w.heap.size + 1 + 1 < b) fun b hb _ => by omega)
  clear ha hz
  have HI1 := Lib.hid (HI0.out.stays hb)
  have HF1 := Lib.hid (HF0.out.stays hb)
  have HU1 := Lib.hid (HU0.out.below hb)
  have HR1 := Lib.hid (HR0.out.stays hb)
  have HB1 := Lib.hid (HB0.out.trans (hb.mono HB0.out.size))
  clear hb
  refine hK.out _ _ (fun _ => HF1.out) ?_
  clear hK K
  refine AnyE.one (i := 5) (by kernel_rfl) rfl (by rfl) (fun K hK => ?_)
  have hcx : W1.cell? ⟨w.heap.size + 1 + 1, 0, none⟩ = some (.int .i64 0) := HI1.out.cell 0
  have hfx := HI1.out.frozen 0
  go_simp
  clear hcx hfx
  have HI2 := Lib.hid (show Blk _ _ (insCells (⟨13, p, e0, e0, tm0, tm0, [], 0, false⟩ : Ins) (.slice none 0 0)) 43 from HI1.out.setSame 0 (.int .i64 13))
  have HF2 := Lib.hid (HF1.out.setOther ⟨w.heap.size + 1 + 1, 0, none⟩ (.int .i64 13) (by show w.heap.size ≠ w.heap.size + 1 + 1; omega))
  have HU2 := Lib.hid (HU1.out.keep (S' := fun b => b < w.heap.size) (w' := W1.setCell ⟨w.heap.size + 1 + 1, 0, none⟩ (.int .i64 13)) fun b hb hl => ⟨hb, Below.heap_setCell _ _ _ _ (by show b ≠ w.heap.size + 1 + 1; omega)⟩)
  have HR2 := Lib.hid (HR1.out.setOther ⟨w.heap.size + 1 + 1, 0, none⟩ (.int .i64 13) (by show w.heap.size + 1 ≠ w.heap.size + 1 + 1; omega))
  have HB2 := Lib.hid (HB1.out.setCell (p := ⟨w.heap.size + 1 + 1, 0, none⟩) (by show w.heap.size ≤ w.heap.size + 1 + 1; omega) (.int .i64 13))
  have HA2 := Lib.hid (HA1.out.setCell ⟨w.heap.size + 1 + 1, 0, none⟩ (.int .i64 13) (fun b hb => by show b ≠ w.heap.size + 1 + 1; omega))
  generalize W1.setCell ⟨w.heap.size + 1 + 1, 0, none⟩ (.int .i64 13) = W2 at HI2 HF2 HU2 HR2 HB2 HA2 ⊢
  refine hK.out _ _ (fun _ => HF2.out) ?_
  clear hK K
  refine AnyE.one (i := 6) (by kernel_rfl) rfl (by rfl) (fun K hK => ?_)
  go_simp
  refine hK.out _ _ (fun _ => HF2.out) ?_
  clear hK K
  refine AnyE.one (i := 7) (by kernel_rfl) rfl (by rfl) (fun K hK => ?_)
  have hcx : W2.cell? ⟨w.heap.size + 1 + 1, 3, none⟩ = some (.string ⟨#[]⟩) := HI2.out.cell 3
  have hfx := HI2.out.frozen 3
  go_simp
  clear hcx hfx
  have HI3 := Lib.hid (show Blk _ _ (insCells (⟨13, p, e0, tx, tm0, tm0, [], 0, false⟩ : Ins) (.slice none 0 0)) 43 from HI2.out.setSame 3 (.string tx))
  have HF3 := Lib.hid (HF2.out.setOther ⟨w.heap.size + 1 + 1, 3, none⟩ (.string tx) (by show w.heap.size ≠ w.heap.size + 1 + 1; omega))
  have HU3 := Lib.hid (HU2.out.keep (S' := fun b => b < w.heap.size) (w' := W2.setCell ⟨w.heap.size + 1 + 1, 3, none⟩ (.string tx)) fun b hb hl => ⟨hb, Below.heap_setCell _ _ _ _ (by show b ≠ w.heap.size + 1 + 1; omega)⟩)
  have HR3 := Lib.hid (HR2.out.setOther ⟨w.heap.size + 1 + 1, 3, none⟩ (.string tx) (by show w.heap.size + 1 ≠ w.heap.size + 1 + 1; omega))
  have HB3 := Lib.hid (HB2.out.setCell (p := ⟨w.heap.size + 1 + 1, 3, none⟩) (by show w.heap.size ≤ w.heap.size + 1 + 1; omega) (.string tx))
  have HA3 := Lib.hid (HA2.out.setCell ⟨w.heap.size + 1 + 1, 3, none⟩ (.string tx) (fun b hb => by show b ≠ w.heap.size + 1 + 1; omega))
  generalize W2.setCell ⟨w.heap.size + 1 + 1, 3, none⟩ (.string tx) = W3 at HI3 HF3 HU3 HR3 HB3 HA3 ⊢
  refine hK.out _ _ (fun _ => HF3.out) ?_
  clear hK K
  refine AnyE.one (i := 8) (by kernel_rfl) rfl (by rfl) (fun K hK => ?_)
  go_simp
  refine hK.out _ _ (fun _ => HF3.out) ?_
  clear hK K
  refine AnyE.one (i := 9) (by kernel_rfl) rfl (by rfl) (fun K hK => ?_)
  have hcx : W3.cell? ⟨w.heap.size + 1 + 1, 8, none⟩ = some (.slice none 0 0) := HI3.out.cell 8
  have hfx := HI3.out.frozen 8
  go_simp
  clear hcx hfx
  have HI4 := Lib.hid (show Blk _ _ (insCells (⟨13, p, e0, tx, tm0, tm0, tmsOf (.mk 19 tx nm p ks), 0, false⟩ : Ins) (.slice aa an ac)) 43 from HI3.out.setSame 8 (.slice aa an ac))
  have HF4 := Lib.hid (HF3.out.setOther ⟨w.heap.size + 1 + 1, 8, none⟩ (.slice aa an ac) (by show w.heap.size ≠ w.heap.size + 1 + 1; omega))
  have HU4 := Lib.hid (HU3.out.keep (S' := fun b => b < w.heap.size) (w' := W3.setCell ⟨w.heap.size + 1 + 1, 8, none⟩ (.slice aa an ac)) fun b hb hl => ⟨hb, Below.heap_setCell _ _ _ _ (by show b ≠ w.heap.size + 1 + 1; omega)⟩)
  have HR4 := Lib.hid (HR3.out.setOther ⟨w.heap.size + 1 + 1, 8, none⟩ (.slice aa an ac) (by show w.heap.size + 1 ≠ w.heap.size + 1 + 1; omega))
  have HB4 := Lib.hid (HB3.out.setCell (p := ⟨w.heap.size + 1 + 1, 8, none⟩) (by show w.heap.size ≤ w.heap.size + 1 + 1; omega) (.slice aa an ac))
  have HA4 := Lib.hid (HA3.out.setCell ⟨w.heap.size + 1 + 1, 8, none⟩ (.slice aa an ac) (fun b hb => by show b ≠ w.heap.size + 1 + 1; omega))
  generalize W3.setCell ⟨w.heap.size + 1 + 1, 8, none⟩ (.slice aa an ac) = W4 at HI4 HF4 HU4 HR4 HB4 HA4 ⊢
  refine hK.out _ _ (fun h => absurd rfl h) ?_
  clear hK K
  refine AnyE.done (by kernel_rfl) ?_ _
  go_wp2_with (first
    | ((with_reducible refine at_ld 43 (.tmp 4) ?_); refine wpList_load_blk rfl 43 (.tmp 4) rfl (w.heap.size + 1 + 1) (insCells (⟨13, p, e0, tx, tm0, tm0, tmsOf (.mk 19 tx nm p ks), 0, false⟩ : Ins) (.slice aa an ac)) rfl HI4.out Tryd.underlying43 rfl Tryd.sizeInstr ?_)
    | ((with_reducible refine at_st 43 (.tmp 2) ?_); refine wpList_store_blk rfl 43 (.tmp 2) (.tmp 84) rfl (w.heap.size + 1) (insCells (⟨13, p, e0, tx, tm0, tm0, tmsOf (.mk 19 tx nm p ks), 0, false⟩ : Ins) (.slice aa an ac)) rfl rfl HR4.out Tryd.sizeInstr rfl (insCells_one _ _ rfl) ?_))
  exact ret_cell_tmp (cs := (insCells (⟨13, p, e0, tx, tm0, tm0, tmsOf (.mk 19 tx nm p ks), 0, false⟩ : Ins) (.slice aa an ac))) Tryd.results82 rfl (HR4.out.rowSame _) Tryd.underlying43 rfl Tryd.sizeInstr rfl rfl ⟨_, rfl, ((HA4.out.setRow _ _ (fun b hb => by omega)).mono (fun b hb _ => by omega)), Below.row HB4.out (by omega) _⟩

set_option maxRecDepth 100000 in
set_option maxHeartbeats 2000000 in
theorem simple_20 {w : World} {tx : ByteArray} {nm : Int} {p : Nat} {ks : List T} {S : Nat → Prop} {kv : Value} (hk : KAt 25 w ks S kv) {ck : Int} {cx : ByteArray} {cn : Int} {cp : Nat} {cks : List T} (hf : kidP (.mk 20 tx nm p ks) 0 = .mk ck cx cn cp cks) (hl : cks.length ≤ 50000) :
    simpleI (.mk 20 tx nm p ks) = some (⟨12, p, e0, cx, tm0, tm0, tmsOf (.mk ck cx cn cp cks), 0, false⟩ : Ins) ∧ Calls Tryd.prog 82 #[NodeV (.mk 20 tx nm p ks) kv] w (SimplePost w (⟨12, p, e0, cx, tm0, tm0, tmsOf (.mk ck cx cn cp cks), 0, false⟩ : Ins)) := by
  refine ⟨by unfold simpleI; rw [hf]; rfl, ?_⟩
  obtain ⟨ua, un, uc, rfl⟩ := hk.slice
  have hko := kidOf_any (t := .mk 20 tx nm p ks) ((((hk.mono (S' := fun b => b < w.heap.size) fun b _ hl => hl).alloc (.cells (nodeCells (.mk 20 tx nm p ks) (.slice ua un uc)).toArray 25)).alloc (.cells (insCells ins0 (.slice none 0 0)).toArray 43)).alloc (.cells (insCells (⟨0, p, e0, e0, tm0, tm0, [], 0, false⟩ : Ins) (.slice none 0 0)).toArray 43)) 0
  rw [hf] at hko
  have HKO := Lib.hid hko
  have HB := Lib.hid (show Below w.heap.size w (((w.alloc (.cells (nodeCells (.mk 20 tx nm p ks) (.slice ua un uc)).toArray 25)).alloc (.cells (insCells ins0 (.slice none 0 0)).toArray 43)).alloc (.cells (insCells (⟨0, p, e0, e0, tm0, tm0, [], 0, false⟩ : Ins) (.slice none 0 0)).toArray 43)) from (((Below.refl _ _).alloc (Nat.le_refl _) _).alloc (by simp) _).alloc (by simp; omega) _)
  have HRes := Lib.hid (show Blk (((w.alloc (.cells (nodeCells (.mk 20 tx nm p ks) (.slice ua un uc)).toArray 25)).alloc (.cells (insCells ins0 (.slice none 0 0)).toArray 43)).alloc (.cells (insCells (⟨0, p, e0, e0, tm0, tm0, [], 0, false⟩ : Ins) (.slice none 0 0)).toArray 43)) (w.heap.size + 1) (insCells ins0 (.slice none 0 0)) 43 from (Blk.new2 w _ _ _).alloc _)
  have HIns := Lib.hid (show Blk (((w.alloc (.cells (nodeCells (.mk 20 tx nm p ks) (.slice ua un uc)).toArray 25)).alloc (.cells (insCells ins0 (.slice none 0 0)).toArray 43)).alloc (.cells (insCells (⟨0, p, e0, e0, tm0, tm0, [], 0, false⟩ : Ins) (.slice none 0 0)).toArray 43)) (w.heap.size + 1 + 1) (insCells (⟨0, p, e0, e0, tm0, tm0, [], 0, false⟩ : Ins) (.slice none 0 0)) 43 from by
    have h := Blk.new2 (w.alloc (.cells (nodeCells (.mk 20 tx nm p ks) (.slice ua un uc)).toArray 25)) (.cells (insCells ins0 (.slice none 0 0)).toArray 43) (insCells (⟨0, p, e0, e0, tm0, tm0, [], 0, false⟩ : Ins) (.slice none 0 0)) 43
    rw [show (w.alloc (.cells (nodeCells (.mk 20 tx nm p ks) (.slice ua un uc)).toArray 25)).heap.size = w.heap.size + 1 by simp] at h
    exact h)
  clear hk hko hf
  unfold NodeV
  simp only [kind_mk, text_mk, num_mk, place_mk]
  go_enter Tryd.func82, Tryd.ntmps82
  go_wp2_with fail
  refine HKO.out.mono ?_
  rintro e w1 ⟨u, rfl, hu, hb⟩
  clear HKO
  obtain ⟨ca, cl, cc, rfl⟩ := hu.slice
  have HB1 := Lib.hid (HB.out.trans (hb.mono HB.out.size))
  have hz1 := (HIns.out.stays hb).lt
  obtain ⟨W0, hW0, HI0, HF0, HU0, HR0, HB0⟩ : ∃ W0 : World, (w1.alloc (.cells (nodeCells (.mk ck cx cn cp cks) (.slice ca cl cc)).toArray 25)).drew = W0 ∧ Hid (Blk W0 (w.heap.size + 1 + 1) (insCells (⟨0, p, e0, e0, tm0, tm0, [], 0, false⟩ : Ins) (.slice none 0 0)) 43) ∧ Hid (Blk W0 w1.heap.size (nodeCells (.mk ck cx cn cp cks) (.slice ca cl cc)) 25) ∧ Hid (KAt 25 W0 cks (fun b => b < w.heap.size) (.slice ca cl cc)) ∧ Hid (Blk W0 (w.heap.size + 1) (insCells ins0 (.slice none 0 0)) 43) ∧ Hid (Below w.heap.size w W0) :=
    ⟨_, rfl, Lib.hid ((HIns.out.stays hb).alloc _).drew, Lib.hid (Blk.new w1 _ _).drew, Lib.hid (hu.alloc _).drew, Lib.hid ((HRes.out.stays hb).alloc _).drew, Lib.hid (HB1.out.alloc (by omega) _).drew⟩
  clear hu hb HB HRes HIns HB1
  unfold NodeV
  simp only [kind_mk, text_mk, num_mk, place_mk]
  go_wp2_with fail
  refine AnyE.begin3 (S := fun W => Blk W w1.heap.size (nodeCells (.mk ck cx cn cp cks) (.slice ca cl cc)) 25) hW0 (by kernel_rfl) HF0.out (fun hS => ?_)
  clear hW0
  refine AnyE.take (i := 0) (v := .pointer (some ⟨w1.heap.size, 1, none⟩)) rfl (by kernel_rfl) (by kernel_rfl) (by kernel_rfl) (by kernel_rfl) (fun _ _ _ h => h) (Or.inl ⟨by rfl, fun W _ => by go_simp⟩) hS ?_
  refine AnyE.take (i := 1) (v := .string cx) rfl (by kernel_rfl) (by kernel_rfl) (by kernel_rfl) (by kernel_rfl) (fun _ _ _ h => h) (Or.inl ⟨by rfl, fun W hW => by have hcx : W.cell? ⟨w1.heap.size, 1, none⟩ = some (.string cx) := hW.cell 1; go_simp⟩) hS ?_
  refine AnyE.take (i := 2) (v := .agg #[.int .i64 ck, .string cx, .int .i64 cn, .int .i64 cp, .slice ca cl cc]) rfl (by kernel_rfl) (by kernel_rfl) (by kernel_rfl) (by kernel_rfl) (fun _ _ _ h => h) (yieldsIf_load_mid (cs := (nodeCells (.mk ck cx cn cp cks) (.slice ca cl cc))) (by rfl) 25 (.tmp 5) rfl (w1.heap.size) 0 rfl _ (fun W hW j v hj => by rw [Nat.zero_add, hW.cell j]; exact hj) Tryd.underlying25 rfl Tryd.sizeNode) hS ?_
  refine AnyE.take (i := 4) (v := .pointer (some ⟨w.heap.size + 1 + 1, 0, none⟩)) rfl (by kernel_rfl) (by kernel_rfl) (by kernel_rfl) (by kernel_rfl) (fun _ _ _ h => h) (Or.inl ⟨by rfl, fun W _ => by go_simp⟩) hS ?_
  refine AnyE.one (i := 3) (by kernel_rfl) rfl (by rfl) (fun K hK => ?_)
  go_simp
  refine (termsOf_any (t := (.mk ck cx cn cp cks)) HU0.out hl).mono ?_
  rintro e W1 ⟨va, rfl, ha, hb⟩
  obtain ⟨aa, an, ac, rfl⟩ := ha.slice
  have hz := HI0.out.lt
  have HA1 := Lib.hid (ha.mono (S' := fun b => w.heap.size + 1 + 1 < b) fun b hb _ => by omega)
  clear ha hz
  have HI1 := Lib.hid (HI0.out.stays hb)
  have HF1 := Lib.hid (HF0.out.stays hb)
  have HU1 := Lib.hid (HU0.out.below hb)
  have HR1 := Lib.hid (HR0.out.stays hb)
  have HB1 := Lib.hid (HB0.out.trans (hb.mono HB0.out.size))
  clear hb
  refine hK.out _ _ (fun _ => HF1.out) ?_
  clear hK K
  refine AnyE.one (i := 5) (by kernel_rfl) rfl (by rfl) (fun K hK => ?_)
  have hcx : W1.cell? ⟨w.heap.size + 1 + 1, 0, none⟩ = some (.int .i64 0) := HI1.out.cell 0
  have hfx := HI1.out.frozen 0
  go_simp
  clear hcx hfx
  have HI2 := Lib.hid (show Blk _ _ (insCells (⟨12, p, e0, e0, tm0, tm0, [], 0, false⟩ : Ins) (.slice none 0 0)) 43 from HI1.out.setSame 0 (.int .i64 12))
  have HF2 := Lib.hid (HF1.out.setOther ⟨w.heap.size + 1 + 1, 0, none⟩ (.int .i64 12) (by show w1.heap.size ≠ w.heap.size + 1 + 1; omega))
  have HU2 := Lib.hid (HU1.out.keep (S' := fun b => b < w.heap.size) (w' := W1.setCell ⟨w.heap.size + 1 + 1, 0, none⟩ (.int .i64 12)) fun b hb hl => ⟨hb, Below.heap_setCell _ _ _ _ (by show b ≠ w.heap.size + 1 + 1; omega)⟩)
  have HR2 := Lib.hid (HR1.out.setOther ⟨w.heap.size + 1 + 1, 0, none⟩ (.int .i64 12) (by show w.heap.size + 1 ≠ w.heap.size + 1 + 1; omega))
  have HB2 := Lib.hid (HB1.out.setCell (p := ⟨w.heap.size + 1 + 1, 0, none⟩) (by show w.heap.size ≤ w.heap.size + 1 + 1; omega) (.int .i64 12))
  have HA2 := Lib.hid (HA1.out.setCell ⟨w.heap.size + 1 + 1, 0, none⟩ (.int .i64 12) (fun b hb => by show b ≠ w.heap.size + 1 + 1; omega))
  generalize W1.setCell ⟨w.heap.size + 1 + 1, 0, none⟩ (.int .i64 12) = W2 at HI2 HF2 HU2 HR2 HB2 HA2 ⊢
  refine hK.out _ _ (fun _ => HF2.out) ?_
  clear hK K
  refine AnyE.one (i := 6) (by kernel_rfl) rfl (by rfl) (fun K hK => ?_)
  go_simp
  refine hK.out _ _ (fun _ => HF2.out) ?_
  clear hK K
  refine AnyE.one (i := 7) (by kernel_rfl) rfl (by rfl) (fun K hK => ?_)
  have hcx : W2.cell? ⟨w.heap.size + 1 + 1, 3, none⟩ = some (.string ⟨#[]⟩) := HI2.out.cell 3
  have hfx := HI2.out.frozen 3
  go_simp
  clear hcx hfx
  have HI3 := Lib.hid (show Blk _ _ (insCells (⟨12, p, e0, cx, tm0, tm0, [], 0, false⟩ : Ins) (.slice none 0 0)) 43 from HI2.out.setSame 3 (.string cx))
  have HF3 := Lib.hid (HF2.out.setOther ⟨w.heap.size + 1 + 1, 3, none⟩ (.string cx) (by show w1.heap.size ≠ w.heap.size + 1 + 1; omega))
  have HU3 := Lib.hid (HU2.out.keep (S' := fun b => b < w.heap.size) (w' := W2.setCell ⟨w.heap.size + 1 + 1, 3, none⟩ (.string cx)) fun b hb hl => ⟨hb, Below.heap_setCell _ _ _ _ (by show b ≠ w.heap.size + 1 + 1; omega)⟩)
  have HR3 := Lib.hid (HR2.out.setOther ⟨w.heap.size + 1 + 1, 3, none⟩ (.string cx) (by show w.heap.size + 1 ≠ w.heap.size + 1 + 1; omega))
  have HB3 := Lib.hid (HB2.out.setCell (p := ⟨w.heap.size + 1 + 1, 3, none⟩) (by show w.heap.size ≤ w.heap.size + 1 + 1; omega) (.string cx))
  have HA3 := Lib.hid (HA2.out.setCell ⟨w.heap.size + 1 + 1, 3, none⟩ (.string cx) (fun b hb => by show b ≠ w.heap.size + 1 + 1; omega))
  generalize W2.setCell ⟨w.heap.size + 1 + 1, 3, none⟩ (.string cx) = W3 at HI3 HF3 HU3 HR3 HB3 HA3 ⊢
  refine hK.out _ _ (fun _ => HF3.out) ?_
  clear hK K
  refine AnyE.one (i := 8) (by kernel_rfl) rfl (by rfl) (fun K hK => ?_)
  go_simp
  refine hK.out _ _ (fun _ => HF3.out) ?_
  clear hK K
  refine AnyE.one (i := 9) (by kernel_rfl) rfl (by rfl) (fun K hK => ?_)
  have hcx : W3.cell? ⟨w.heap.size + 1 + 1, 8, none⟩ = some (.slice none 0 0) := HI3.out.cell 8
  have hfx := HI3.out.frozen 8
  go_simp
  clear hcx hfx
  have HI4 := Lib.hid (show Blk _ _ (insCells (⟨12, p, e0, cx, tm0, tm0, tmsOf (.mk ck cx cn cp cks), 0, false⟩ : Ins) (.slice aa an ac)) 43 from HI3.out.setSame 8 (.slice aa an ac))
  have HF4 := Lib.hid (HF3.out.setOther ⟨w.heap.size + 1 + 1, 8, none⟩ (.slice aa an ac) (by show w1.heap.size ≠ w.heap.size + 1 + 1; omega))
  have HU4 := Lib.hid (HU3.out.keep (S' := fun b => b < w.heap.size) (w' := W3.setCell ⟨w.heap.size + 1 + 1, 8, none⟩ (.slice aa an ac)) fun b hb hl => ⟨hb, Below.heap_setCell _ _ _ _ (by show b ≠ w.heap.size + 1 + 1; omega)⟩)
  have HR4 := Lib.hid (HR3.out.setOther ⟨w.heap.size + 1 + 1, 8, none⟩ (.slice aa an ac) (by show w.heap.size + 1 ≠ w.heap.size + 1 + 1; omega))
  have HB4 := Lib.hid (HB3.out.setCell (p := ⟨w.heap.size + 1 + 1, 8, none⟩) (by show w.heap.size ≤ w.heap.size + 1 + 1; omega) (.slice aa an ac))
  have HA4 := Lib.hid (HA3.out.setCell ⟨w.heap.size + 1 + 1, 8, none⟩ (.slice aa an ac) (fun b hb => by show b ≠ w.heap.size + 1 + 1; omega))
  generalize W3.setCell ⟨w.heap.size + 1 + 1, 8, none⟩ (.slice aa an ac) = W4 at HI4 HF4 HU4 HR4 HB4 HA4 ⊢
  refine hK.out _ _ (fun h => absurd rfl h) ?_
  clear hK K
  refine AnyE.done (by kernel_rfl) ?_ _
  go_wp2_with (first
    | ((with_reducible refine at_ld 43 (.tmp 4) ?_); refine wpList_load_blk rfl 43 (.tmp 4) rfl (w.heap.size + 1 + 1) (insCells (⟨12, p, e0, cx, tm0, tm0, tmsOf (.mk ck cx cn cp cks), 0, false⟩ : Ins) (.slice aa an ac)) rfl HI4.out Tryd.underlying43 rfl Tryd.sizeInstr ?_)
    | ((with_reducible refine at_st 43 (.tmp 2) ?_); refine wpList_store_blk rfl 43 (.tmp 2) (.tmp 84) rfl (w.heap.size + 1) (insCells (⟨12, p, e0, cx, tm0, tm0, tmsOf (.mk ck cx cn cp cks), 0, false⟩ : Ins) (.slice aa an ac)) rfl rfl HR4.out Tryd.sizeInstr rfl (insCells_one _ _ rfl) ?_))
  exact ret_cell_tmp (cs := (insCells (⟨12, p, e0, cx, tm0, tm0, tmsOf (.mk ck cx cn cp cks), 0, false⟩ : Ins) (.slice aa an ac))) Tryd.results82 rfl (HR4.out.rowSame _) Tryd.underlying43 rfl Tryd.sizeInstr rfl rfl ⟨_, rfl, ((HA4.out.setRow _ _ (fun b hb => by omega)).mono (fun b hb _ => by omega)), Below.row HB4.out (by omega) _⟩

end Go.Proofs.YtnmpfpnldcgbaaaDoor
