/- The contract of code.set: the instruction of a Set, by the kind of its expression. -/
import Derived.Test.YtnmpfpnldcgbaaaDoorP25
import Derived.Test.YtnmpfpnldcgbaaaDoorP26
namespace Go.Proofs.YtnmpfpnldcgbaaaDoor
open Go.RowKit

theorem kind_mk (k : Int) (s : ByteArray) (n : Int) (p : Nat) (ks : List T) : (T.mk k s n p ks).kind = k := rfl
theorem text_mk (k : Int) (s : ByteArray) (n : Int) (p : Nat) (ks : List T) : (T.mk k s n p ks).text = s := rfl
theorem num_mk (k : Int) (s : ByteArray) (n : Int) (p : Nat) (ks : List T) : (T.mk k s n p ks).num = n := rfl
theorem place_mk (k : Int) (s : ByteArray) (n : Int) (p : Nat) (ks : List T) : (T.mk k s n p ks).place = p := rfl
theorem Blk.thereN {w : World} {g : Nat} {cs : List Value} {t : TypeId} (h : Blk w g cs t) (o n : Nat) (hn : o + n ≤ cs.length) : w.there g o n := fun j hj => by
  refine ⟨?_, h.frozen (o + j)⟩
  rw [h.cell (o + j), List.getElem?_eq_getElem (by omega)]
  rfl
theorem Blk.setCells2 {w : World} {g : Nat} {cs : List Value} {t : TypeId} (h : Blk w g cs t) (o : Nat) (x y : Value) : Blk (w.setCells g o [x, y]) g ((cs.set o x).set (o + 1) y) t := (h.setSame o x).setSame (o + 1) y
theorem Below.cells2 {B : Nat} {a w : World} (h : Below B a w) {g : Nat} (hg : B ≤ g) (o : Nat) (x y : Value) : Below B a (w.setCells g o [x, y]) := (h.setCell (by show B ≤ g; exact hg) x).setCell (by show B ≤ g; exact hg) y
theorem Blk.other2 {w : World} {b g : Nat} {cs : List Value} {t : TypeId} (h : Blk w b cs t) (hn : b ≠ g) (o : Nat) (x y : Value) : Blk (w.setCells g o [x, y]) b cs t := (h.setOther _ _ (by show b ≠ g; exact hn)).setOther _ _ (by show b ≠ g; exact hn)
theorem AnyE.begin3 {P : Program} {ops : Array Oper} {Q : Exit → Act → World → Prop} {S : World → Prop} {id : Nat} {a : Act} {w W0 : World} (hw : w.drew = W0) (hm : P.follows .mixedOrders = true) (hS : S W0) (h : S W0 → AnyE P .any ops Q S ops.size (Array.replicate ops.size false) a W0) : (Code.region id ops true).wp P Q a w :=
  AnyE.begin hm (by rw [hw]; exact h hS)

set_option maxRecDepth 100000 in
set_option maxHeartbeats 2000000 in
theorem set_5 {w : World} {t : T} {S : Nat → Prop} {kv : Value} (hk : KAt 25 w t.kids S kv) {sf : ByteArray} {nf : Int} {pf : Nat} {ks : List T} (hf : kidP t 0 = .mk 5 sf nf pf ks) :
    Calls Tryd.prog 81 #[NodeV t kv] w (InsPost w (setI t)) := by
  have hs : setI t = ⟨0, t.place, t.text, e0, ⟨sf, nf⟩, tm0, [], 0, false⟩ := by unfold setI; rw [hf]; rfl
  rw [hs]
  clear hs
  have HB := Lib.hid (show Below w.heap.size w ((w.alloc (.cells (nodeCells t kv).toArray 25)).alloc (.cells (insCells ins0 (.slice none 0 0)).toArray 43)) from (((Below.refl _ _).alloc (Nat.le_refl _) _).alloc (by simp) _))
  have HN := Lib.hid (show Blk ((w.alloc (.cells (nodeCells t kv).toArray 25)).alloc (.cells (insCells ins0 (.slice none 0 0)).toArray 43)) w.heap.size (nodeCells t kv) 25 from ((Blk.new w (nodeCells t kv) 25).alloc _))
  have HRes := Lib.hid (Blk.new2 w (.cells (nodeCells t kv).toArray 25) (insCells ins0 (.slice none 0 0)) 43)
  have hko := kidOf_any (((hk.mono (S' := fun b => b < w.heap.size) fun b _ hl => hl).alloc (.cells (nodeCells t kv).toArray 25)).alloc (.cells (insCells ins0 (.slice none 0 0)).toArray 43)) 0
  rw [hf] at hko
  have HKO := Lib.hid hko
  clear hk hko hf
  unfold NodeV
  go_enter Tryd.func81, Tryd.ntmps81
  go_wp2_with fail
  refine HKO.out.mono ?_
  rintro e w1 ⟨u, rfl, hu, hb⟩
  clear HKO
  have hn1 := HN.out.stays hb
  have hr1 := HRes.out.stays hb
  have hc1 := hn1.cell 1
  have hc3 := hn1.cell 3
  simp only [nodeCells, List.getElem?_cons_zero, List.getElem?_cons_succ] at hc1 hc3
  have hl1 := hr1.lt
  have hl0 := hn1.lt
  have hne0 : w.heap.size ≠ w1.heap.size := by omega
  have hne1 : w.heap.size + 1 ≠ w1.heap.size := by omega
  obtain ⟨ua, un, uc, rfl⟩ := hu.slice
  have HB1 := Lib.hid (HB.out.trans (hb.mono HB.out.size))
  have HR := Lib.hid hr1
  have HU := Lib.hid hu
  clear hn1 hr1 hb HB HN HRes hu
  unfold NodeV
  simp only [kind_mk, text_mk, num_mk, place_mk]
  go_wp2_with fail
  refine (cterm_any _ (.mk 5 sf nf pf ks) (.slice ua un uc)).mono ?_
  rintro e W1 ⟨rfl, hb⟩
  have HI1 := Lib.hid (show Blk W1 (w1.heap.size + 1) (insCells (⟨0, t.place, t.text, e0, tm0, tm0, [], 0, false⟩ : Ins) (.slice none 0 0)) 43 from (Blk.new2 w1 _ _ _).stays hb)
  have HI2 := Lib.hid (show Blk (W1.setCells (w1.heap.size + 1) 4 [.string sf, .int .i64 nf]) (w1.heap.size + 1) (insCells (⟨0, t.place, t.text, e0, ⟨sf, nf⟩, tm0, [], 0, false⟩ : Ins) (.slice none 0 0)) 43 from HI1.out.setCells2 4 _ _)
  have HR2 := Lib.hid (show Blk (W1.setCells (w1.heap.size + 1) 4 [.string sf, .int .i64 nf]) _ _ _ from Blk.other2 (((HR.out.alloc _).alloc _).stays hb) (by omega) 4 _ _)
  have HB2 := Lib.hid (show Below w.heap.size w (W1.setCells (w1.heap.size + 1) 4 [.string sf, .int .i64 nf]) from Below.cells2 (((HB1.out.alloc (by omega) _).alloc (by simp; omega) _).trans (hb.mono (by simp; omega))) (by omega) 4 _ _)
  clear hb
  unfold TmV
  go_wp2_with (first
    | ((with_reducible refine at_st 40 (.tmp 18) ?_); refine wpList_store_mid rfl 40 (.tmp 18) (.tmp 17) rfl (w1.heap.size + 1) 4 #[.string sf, .int .i64 nf] rfl rfl (HI1.out.thereN 4 2 (show 4 + 2 ≤ 11 by omega)) Tryd.sizeTerm (all_oneCell_toArray (tmCells_one ⟨sf, nf⟩)) ?_)
    | ((with_reducible refine at_ld 43 (.tmp 4) ?_); refine wpList_load_blk rfl 43 (.tmp 4) rfl (w1.heap.size + 1) (insCells (⟨0, t.place, t.text, e0, ⟨sf, nf⟩, tm0, [], 0, false⟩ : Ins) (.slice none 0 0)) rfl HI2.out Tryd.underlying43 rfl Tryd.sizeInstr ?_)
    | ((with_reducible refine at_st 43 (.tmp 2) ?_); refine wpList_store_blk rfl 43 (.tmp 2) (.tmp 76) rfl (w.heap.size + 1) (insCells (⟨0, t.place, t.text, e0, ⟨sf, nf⟩, tm0, [], 0, false⟩ : Ins) (.slice none 0 0)) rfl rfl HR2.out Tryd.sizeInstr rfl (insCells_one _ _ rfl) ?_))
  exact ret_blk (cs := (insCells (⟨0, t.place, t.text, e0, ⟨sf, nf⟩, tm0, [], 0, false⟩ : Ins) (.slice none 0 0))) Tryd.results81 rfl HR2.out Tryd.underlying43 rfl Tryd.sizeInstr rfl ⟨_, rfl, ArgsAt.nil _ _, Below.row HB2.out (by omega) _⟩

set_option maxRecDepth 100000 in
set_option maxHeartbeats 2000000 in
theorem set_21 {w : World} {t : T} {S : Nat → Prop} {kv : Value} (hk : KAt 25 w t.kids S kv) {sf : ByteArray} {nf : Int} {pf : Nat} {ks : List T} (hf : kidP t 0 = .mk 21 sf nf pf ks) :
    Calls Tryd.prog 81 #[NodeV t kv] w (InsPost w (setI t)) := by
  have hs : setI t = ⟨1, t.place, t.text, e0, tmOf (kidP (.mk 21 sf nf pf ks) 0), tmOf (kidP (.mk 21 sf nf pf ks) 1), [], 0, false⟩ := by unfold setI; rw [hf]; rfl
  rw [hs]
  clear hs
  have HB := Lib.hid (show Below w.heap.size w ((w.alloc (.cells (nodeCells t kv).toArray 25)).alloc (.cells (insCells ins0 (.slice none 0 0)).toArray 43)) from (((Below.refl _ _).alloc (Nat.le_refl _) _).alloc (by simp) _))
  have HN := Lib.hid (show Blk ((w.alloc (.cells (nodeCells t kv).toArray 25)).alloc (.cells (insCells ins0 (.slice none 0 0)).toArray 43)) w.heap.size (nodeCells t kv) 25 from ((Blk.new w (nodeCells t kv) 25).alloc _))
  have HRes := Lib.hid (Blk.new2 w (.cells (nodeCells t kv).toArray 25) (insCells ins0 (.slice none 0 0)) 43)
  have hko := kidOf_any (((hk.mono (S' := fun b => b < w.heap.size) fun b _ hl => hl).alloc (.cells (nodeCells t kv).toArray 25)).alloc (.cells (insCells ins0 (.slice none 0 0)).toArray 43)) 0
  rw [hf] at hko
  have HKO := Lib.hid hko
  clear hk hko hf
  unfold NodeV
  go_enter Tryd.func81, Tryd.ntmps81
  go_wp2_with fail
  refine HKO.out.mono ?_
  rintro e w1 ⟨u, rfl, hu, hb⟩
  clear HKO
  have hn1 := HN.out.stays hb
  have hr1 := HRes.out.stays hb
  have hc1 := hn1.cell 1
  have hc3 := hn1.cell 3
  simp only [nodeCells, List.getElem?_cons_zero, List.getElem?_cons_succ] at hc1 hc3
  have hl1 := hr1.lt
  have hl0 := hn1.lt
  have hne0 : w.heap.size ≠ w1.heap.size := by omega
  have hne1 : w.heap.size + 1 ≠ w1.heap.size := by omega
  obtain ⟨ua, un, uc, rfl⟩ := hu.slice
  have HB1 := Lib.hid (HB.out.trans (hb.mono HB.out.size))
  have HR := Lib.hid hr1
  have HU := Lib.hid hu
  clear hn1 hr1 hb HB HN HRes hu
  unfold NodeV
  simp only [kind_mk, text_mk, num_mk, place_mk]
  go_wp2_with fail
  obtain ⟨W0, hW0, HI, HF, HU0, HR0, HB0⟩ : ∃ W0 : World, ((w1.alloc (.cells (nodeCells (.mk 21 sf nf pf ks) (.slice ua un uc)).toArray 25)).alloc (.cells (insCells (⟨0, t.place, t.text, e0, tm0, tm0, [], 0, false⟩ : Ins) (.slice none 0 0)).toArray 43)).drew = W0 ∧ Hid (Blk W0 (w1.heap.size + 1) (insCells (⟨0, t.place, t.text, e0, tm0, tm0, [], 0, false⟩ : Ins) (.slice none 0 0)) 43) ∧ Hid (Blk W0 w1.heap.size (nodeCells (.mk 21 sf nf pf ks) (.slice ua un uc)) 25) ∧ Hid (KAt 25 W0 ks (fun b => b < w.heap.size) (.slice ua un uc)) ∧ Hid (Blk W0 (w.heap.size + 1) (insCells ins0 (.slice none 0 0)) 43) ∧ Hid (Below w.heap.size w W0) :=
    ⟨_, rfl, Lib.hid (Blk.new2 w1 _ _ _).drew, Lib.hid ((Blk.new w1 _ _).alloc _).drew, Lib.hid ((HU.out.alloc _).alloc _).drew, Lib.hid ((HR.out.alloc _).alloc _).drew, Lib.hid (((HB1.out.alloc (by omega) _).alloc (by simp; omega) _).drew)⟩
  clear HU HR HB1 hc1 hc3
  refine AnyE.begin3 (S := fun W => Blk W w1.heap.size (nodeCells (.mk 21 sf nf pf ks) (.slice ua un uc)) 25) hW0 (by kernel_rfl) HF.out (fun hS => ?_)
  clear hW0
  refine AnyE.take (i := 0) (v := .agg #[.int .i64 21, .string sf, .int .i64 nf, .int .i64 pf, .slice ua un uc]) rfl (by kernel_rfl) (by kernel_rfl) (by kernel_rfl) (by kernel_rfl) (fun _ _ _ h => h) (yieldsIf_load_mid (cs := nodeCells (.mk 21 sf nf pf ks) (.slice ua un uc)) (by rfl) 25 (.tmp 3) rfl (w1.heap.size) 0 rfl _ (fun W hW j v hj => by rw [Nat.zero_add, hW.cell j]; exact hj) Tryd.underlying25 rfl Tryd.sizeNode) hS ?_
  refine AnyE.take (i := 2) (v := .agg #[.int .i64 21, .string sf, .int .i64 nf, .int .i64 pf, .slice ua un uc]) rfl (by kernel_rfl) (by kernel_rfl) (by kernel_rfl) (by kernel_rfl) (fun _ _ _ h => h) (yieldsIf_load_mid (cs := nodeCells (.mk 21 sf nf pf ks) (.slice ua un uc)) (by rfl) 25 (.tmp 3) rfl (w1.heap.size) 0 rfl _ (fun W hW j v hj => by rw [Nat.zero_add, hW.cell j]; exact hj) Tryd.underlying25 rfl Tryd.sizeNode) hS ?_
  refine AnyE.take (i := 4) (v := .pointer (some ⟨w1.heap.size + 1, 0, none⟩)) rfl (by kernel_rfl) (by kernel_rfl) (by kernel_rfl) (by kernel_rfl) (fun _ _ _ h => h) (Or.inl ⟨by rfl, fun W _ => by go_simp⟩) hS ?_
  refine AnyE.one (i := 1) (by kernel_rfl) rfl (by rfl) (fun K hK => ?_)
  go_simp
  refine (termOf_any (t := (.mk 21 sf nf pf ks)) HU0.out 0).mono ?_
  rintro e W1 ⟨rfl, hb⟩
  have HI1 := Lib.hid (HI.out.stays hb)
  have HF1 := Lib.hid (HF.out.stays hb)
  have HU1 := Lib.hid (HU0.out.below hb)
  have HR1 := Lib.hid (HR0.out.stays hb)
  have HB1 := Lib.hid (HB0.out.trans (hb.mono HB0.out.size))
  clear hb
  unfold TmV
  refine hK.out _ _ (fun _ => HF1.out) ?_
  clear hK K
  refine AnyE.one (i := 3) (by kernel_rfl) rfl (by rfl) (fun K hK => ?_)
  go_simp
  refine (termOf_any (t := (.mk 21 sf nf pf ks)) HU1.out 1).mono ?_
  rintro e W2 ⟨rfl, hb⟩
  have HI2 := Lib.hid (HI1.out.stays hb)
  have HF2 := Lib.hid (HF1.out.stays hb)
  have HU2 := Lib.hid (HU1.out.below hb)
  have HR2 := Lib.hid (HR1.out.stays hb)
  have HB2 := Lib.hid (HB1.out.trans (hb.mono HB1.out.size))
  clear hb
  unfold TmV
  refine hK.out _ _ (fun _ => HF2.out) ?_
  clear hK K
  refine AnyE.one (i := 5) (by kernel_rfl) rfl (by rfl) (fun K hK => ?_)
  have hcx : W2.cell? ⟨w1.heap.size + 1, 0, none⟩ = some (.int .i64 0) := HI2.out.cell 0
  have hfx := HI2.out.frozen 0
  go_simp
  clear hcx hfx
  have HI3 := Lib.hid (show Blk _ _ (insCells (⟨1, t.place, t.text, e0, tm0, tm0, [], 0, false⟩ : Ins) (.slice none 0 0)) 43 from HI2.out.setSame 0 (.int .i64 1))
  have HF3 := Lib.hid (HF2.out.setOther ⟨w1.heap.size + 1, 0, none⟩ (.int .i64 1) (by show w1.heap.size ≠ w1.heap.size + 1; omega))
  have HU3 := Lib.hid (HU2.out.keep (S' := fun b => b < w.heap.size) (w' := W2.setCell ⟨w1.heap.size + 1, 0, none⟩ (.int .i64 1)) fun b hb hl => ⟨hb, Below.heap_setCell _ _ _ _ (by show b ≠ w1.heap.size + 1; omega)⟩)
  have HR3 := Lib.hid (HR2.out.setOther ⟨w1.heap.size + 1, 0, none⟩ (.int .i64 1) (by show w.heap.size + 1 ≠ w1.heap.size + 1; omega))
  have HB3 := Lib.hid (HB2.out.setCell (p := ⟨w1.heap.size + 1, 0, none⟩) (by show w.heap.size ≤ w1.heap.size + 1; omega) (.int .i64 1))
  generalize W2.setCell ⟨w1.heap.size + 1, 0, none⟩ (.int .i64 1) = W3 at HI3 HF3 HU3 HR3 HB3 ⊢
  refine hK.out _ _ (fun _ => HF3.out) ?_
  clear hK K
  refine AnyE.one (i := 6) (by kernel_rfl) rfl (by rfl) (fun K hK => ?_)
  go_simp
  refine hK.out _ _ (fun _ => HF3.out) ?_
  clear hK K
  refine AnyE.one (i := 7) (by kernel_rfl) rfl (by rfl) (fun K hK => ?_)
  refine wp_store_mid 40 (.tmp 33) (.tmp 29) rfl (w1.heap.size + 1) 4 #[.string (tmOf (kidP (.mk 21 sf nf pf ks) 0)).name, .int .i64 (tmOf (kidP (.mk 21 sf nf pf ks) 0)).num] rfl rfl (HI3.out.thereN 4 2 (show 4 + 2 ≤ 11 by omega)) Tryd.sizeTerm (all_oneCell_toArray (tmCells_one (tmOf (kidP (.mk 21 sf nf pf ks) 0)))) ?_
  have HI4 := Lib.hid (show Blk (W3.setCells (w1.heap.size + 1) 4 [.string (tmOf (kidP (.mk 21 sf nf pf ks) 0)).name, .int .i64 (tmOf (kidP (.mk 21 sf nf pf ks) 0)).num]) _ (insCells (⟨1, t.place, t.text, e0, tmOf (kidP (.mk 21 sf nf pf ks) 0), tm0, [], 0, false⟩ : Ins) (.slice none 0 0)) 43 from HI3.out.setCells2 4 _ _)
  have HF4 := Lib.hid (show Blk (W3.setCells (w1.heap.size + 1) 4 [.string (tmOf (kidP (.mk 21 sf nf pf ks) 0)).name, .int .i64 (tmOf (kidP (.mk 21 sf nf pf ks) 0)).num]) _ _ _ from HF3.out.other2 (by omega) 4 _ _)
  have HR4 := Lib.hid (show Blk (W3.setCells (w1.heap.size + 1) 4 [.string (tmOf (kidP (.mk 21 sf nf pf ks) 0)).name, .int .i64 (tmOf (kidP (.mk 21 sf nf pf ks) 0)).num]) _ _ _ from HR3.out.other2 (by omega) 4 _ _)
  have HB4 := Lib.hid (show Below _ _ (W3.setCells (w1.heap.size + 1) 4 [.string (tmOf (kidP (.mk 21 sf nf pf ks) 0)).name, .int .i64 (tmOf (kidP (.mk 21 sf nf pf ks) 0)).num]) from Below.cells2 HB3.out (by omega) 4 _ _)
  refine hK.out _ _ (fun _ => HF4.out) ?_
  clear hK K
  refine AnyE.one (i := 8) (by kernel_rfl) rfl (by rfl) (fun K hK => ?_)
  go_simp
  refine hK.out _ _ (fun _ => HF4.out) ?_
  clear hK K
  refine AnyE.one (i := 9) (by kernel_rfl) rfl (by rfl) (fun K hK => ?_)
  refine wp_store_mid 40 (.tmp 34) (.tmp 31) rfl (w1.heap.size + 1) 6 #[.string (tmOf (kidP (.mk 21 sf nf pf ks) 1)).name, .int .i64 (tmOf (kidP (.mk 21 sf nf pf ks) 1)).num] rfl rfl (HI4.out.thereN 6 2 (show 6 + 2 ≤ 11 by omega)) Tryd.sizeTerm (all_oneCell_toArray (tmCells_one (tmOf (kidP (.mk 21 sf nf pf ks) 1)))) ?_
  have HI5 := Lib.hid (show Blk ((W3.setCells (w1.heap.size + 1) 4 [.string (tmOf (kidP (.mk 21 sf nf pf ks) 0)).name, .int .i64 (tmOf (kidP (.mk 21 sf nf pf ks) 0)).num]).setCells (w1.heap.size + 1) 6 [.string (tmOf (kidP (.mk 21 sf nf pf ks) 1)).name, .int .i64 (tmOf (kidP (.mk 21 sf nf pf ks) 1)).num]) _ (insCells (⟨1, t.place, t.text, e0, tmOf (kidP (.mk 21 sf nf pf ks) 0), tmOf (kidP (.mk 21 sf nf pf ks) 1), [], 0, false⟩ : Ins) (.slice none 0 0)) 43 from HI4.out.setCells2 6 _ _)
  have HF5 := Lib.hid (show Blk ((W3.setCells (w1.heap.size + 1) 4 [.string (tmOf (kidP (.mk 21 sf nf pf ks) 0)).name, .int .i64 (tmOf (kidP (.mk 21 sf nf pf ks) 0)).num]).setCells (w1.heap.size + 1) 6 [.string (tmOf (kidP (.mk 21 sf nf pf ks) 1)).name, .int .i64 (tmOf (kidP (.mk 21 sf nf pf ks) 1)).num]) _ _ _ from HF4.out.other2 (by omega) 6 _ _)
  have HR5 := Lib.hid (show Blk ((W3.setCells (w1.heap.size + 1) 4 [.string (tmOf (kidP (.mk 21 sf nf pf ks) 0)).name, .int .i64 (tmOf (kidP (.mk 21 sf nf pf ks) 0)).num]).setCells (w1.heap.size + 1) 6 [.string (tmOf (kidP (.mk 21 sf nf pf ks) 1)).name, .int .i64 (tmOf (kidP (.mk 21 sf nf pf ks) 1)).num]) _ _ _ from HR4.out.other2 (by omega) 6 _ _)
  have HB5 := Lib.hid (show Below _ _ ((W3.setCells (w1.heap.size + 1) 4 [.string (tmOf (kidP (.mk 21 sf nf pf ks) 0)).name, .int .i64 (tmOf (kidP (.mk 21 sf nf pf ks) 0)).num]).setCells (w1.heap.size + 1) 6 [.string (tmOf (kidP (.mk 21 sf nf pf ks) 1)).name, .int .i64 (tmOf (kidP (.mk 21 sf nf pf ks) 1)).num]) from Below.cells2 HB4.out (by omega) 6 _ _)
  refine hK.out _ _ (fun h => absurd rfl h) ?_
  clear hK K
  refine AnyE.done (by kernel_rfl) ?_ _
  go_wp2_with (first
    | ((with_reducible refine at_ld 43 (.tmp 4) ?_); refine wpList_load_blk rfl 43 (.tmp 4) rfl (w1.heap.size + 1) (insCells (⟨1, t.place, t.text, e0, tmOf (kidP (.mk 21 sf nf pf ks) 0), tmOf (kidP (.mk 21 sf nf pf ks) 1), [], 0, false⟩ : Ins) (.slice none 0 0)) rfl HI5.out Tryd.underlying43 rfl Tryd.sizeInstr ?_)
    | ((with_reducible refine at_st 43 (.tmp 2) ?_); refine wpList_store_blk rfl 43 (.tmp 2) (.tmp 76) rfl (w.heap.size + 1) (insCells (⟨1, t.place, t.text, e0, tmOf (kidP (.mk 21 sf nf pf ks) 0), tmOf (kidP (.mk 21 sf nf pf ks) 1), [], 0, false⟩ : Ins) (.slice none 0 0)) rfl rfl HR5.out Tryd.sizeInstr rfl (insCells_one _ _ rfl) ?_))

  exact ret_blk (cs := (insCells (⟨1, t.place, t.text, e0, tmOf (kidP (.mk 21 sf nf pf ks) 0), tmOf (kidP (.mk 21 sf nf pf ks) 1), [], 0, false⟩ : Ins) (.slice none 0 0))) Tryd.results81 rfl HR5.out Tryd.underlying43 rfl Tryd.sizeInstr rfl ⟨_, rfl, ArgsAt.nil _ _, Below.row HB5.out (by omega) _⟩

set_option maxRecDepth 100000 in
set_option maxHeartbeats 2000000 in
theorem set_22 {w : World} {t : T} {S : Nat → Prop} {kv : Value} (hk : KAt 25 w t.kids S kv) {sf : ByteArray} {nf : Int} {pf : Nat} {ks : List T} (hf : kidP t 0 = .mk 22 sf nf pf ks) :
    Calls Tryd.prog 81 #[NodeV t kv] w (InsPost w (setI t)) := by
  have hs : setI t = ⟨2, t.place, t.text, e0, tmOf (kidP (.mk 22 sf nf pf ks) 0), tmOf (kidP (.mk 22 sf nf pf ks) 1), [], 0, false⟩ := by unfold setI; rw [hf]; rfl
  rw [hs]
  clear hs
  have HB := Lib.hid (show Below w.heap.size w ((w.alloc (.cells (nodeCells t kv).toArray 25)).alloc (.cells (insCells ins0 (.slice none 0 0)).toArray 43)) from (((Below.refl _ _).alloc (Nat.le_refl _) _).alloc (by simp) _))
  have HN := Lib.hid (show Blk ((w.alloc (.cells (nodeCells t kv).toArray 25)).alloc (.cells (insCells ins0 (.slice none 0 0)).toArray 43)) w.heap.size (nodeCells t kv) 25 from ((Blk.new w (nodeCells t kv) 25).alloc _))
  have HRes := Lib.hid (Blk.new2 w (.cells (nodeCells t kv).toArray 25) (insCells ins0 (.slice none 0 0)) 43)
  have hko := kidOf_any (((hk.mono (S' := fun b => b < w.heap.size) fun b _ hl => hl).alloc (.cells (nodeCells t kv).toArray 25)).alloc (.cells (insCells ins0 (.slice none 0 0)).toArray 43)) 0
  rw [hf] at hko
  have HKO := Lib.hid hko
  clear hk hko hf
  unfold NodeV
  go_enter Tryd.func81, Tryd.ntmps81
  go_wp2_with fail
  refine HKO.out.mono ?_
  rintro e w1 ⟨u, rfl, hu, hb⟩
  clear HKO
  have hn1 := HN.out.stays hb
  have hr1 := HRes.out.stays hb
  have hc1 := hn1.cell 1
  have hc3 := hn1.cell 3
  simp only [nodeCells, List.getElem?_cons_zero, List.getElem?_cons_succ] at hc1 hc3
  have hl1 := hr1.lt
  have hl0 := hn1.lt
  have hne0 : w.heap.size ≠ w1.heap.size := by omega
  have hne1 : w.heap.size + 1 ≠ w1.heap.size := by omega
  obtain ⟨ua, un, uc, rfl⟩ := hu.slice
  have HB1 := Lib.hid (HB.out.trans (hb.mono HB.out.size))
  have HR := Lib.hid hr1
  have HU := Lib.hid hu
  clear hn1 hr1 hb HB HN HRes hu
  unfold NodeV
  simp only [kind_mk, text_mk, num_mk, place_mk]
  go_wp2_with fail
  obtain ⟨W0, hW0, HI, HF, HU0, HR0, HB0⟩ : ∃ W0 : World, ((w1.alloc (.cells (nodeCells (.mk 22 sf nf pf ks) (.slice ua un uc)).toArray 25)).alloc (.cells (insCells (⟨0, t.place, t.text, e0, tm0, tm0, [], 0, false⟩ : Ins) (.slice none 0 0)).toArray 43)).drew = W0 ∧ Hid (Blk W0 (w1.heap.size + 1) (insCells (⟨0, t.place, t.text, e0, tm0, tm0, [], 0, false⟩ : Ins) (.slice none 0 0)) 43) ∧ Hid (Blk W0 w1.heap.size (nodeCells (.mk 22 sf nf pf ks) (.slice ua un uc)) 25) ∧ Hid (KAt 25 W0 ks (fun b => b < w.heap.size) (.slice ua un uc)) ∧ Hid (Blk W0 (w.heap.size + 1) (insCells ins0 (.slice none 0 0)) 43) ∧ Hid (Below w.heap.size w W0) :=
    ⟨_, rfl, Lib.hid (Blk.new2 w1 _ _ _).drew, Lib.hid ((Blk.new w1 _ _).alloc _).drew, Lib.hid ((HU.out.alloc _).alloc _).drew, Lib.hid ((HR.out.alloc _).alloc _).drew, Lib.hid (((HB1.out.alloc (by omega) _).alloc (by simp; omega) _).drew)⟩
  clear HU HR HB1 hc1 hc3
  refine AnyE.begin3 (S := fun W => Blk W w1.heap.size (nodeCells (.mk 22 sf nf pf ks) (.slice ua un uc)) 25) hW0 (by kernel_rfl) HF.out (fun hS => ?_)
  clear hW0
  refine AnyE.take (i := 0) (v := .agg #[.int .i64 22, .string sf, .int .i64 nf, .int .i64 pf, .slice ua un uc]) rfl (by kernel_rfl) (by kernel_rfl) (by kernel_rfl) (by kernel_rfl) (fun _ _ _ h => h) (yieldsIf_load_mid (cs := nodeCells (.mk 22 sf nf pf ks) (.slice ua un uc)) (by rfl) 25 (.tmp 3) rfl (w1.heap.size) 0 rfl _ (fun W hW j v hj => by rw [Nat.zero_add, hW.cell j]; exact hj) Tryd.underlying25 rfl Tryd.sizeNode) hS ?_
  refine AnyE.take (i := 2) (v := .agg #[.int .i64 22, .string sf, .int .i64 nf, .int .i64 pf, .slice ua un uc]) rfl (by kernel_rfl) (by kernel_rfl) (by kernel_rfl) (by kernel_rfl) (fun _ _ _ h => h) (yieldsIf_load_mid (cs := nodeCells (.mk 22 sf nf pf ks) (.slice ua un uc)) (by rfl) 25 (.tmp 3) rfl (w1.heap.size) 0 rfl _ (fun W hW j v hj => by rw [Nat.zero_add, hW.cell j]; exact hj) Tryd.underlying25 rfl Tryd.sizeNode) hS ?_
  refine AnyE.take (i := 4) (v := .pointer (some ⟨w1.heap.size + 1, 0, none⟩)) rfl (by kernel_rfl) (by kernel_rfl) (by kernel_rfl) (by kernel_rfl) (fun _ _ _ h => h) (Or.inl ⟨by rfl, fun W _ => by go_simp⟩) hS ?_
  refine AnyE.one (i := 1) (by kernel_rfl) rfl (by rfl) (fun K hK => ?_)
  go_simp
  refine (termOf_any (t := (.mk 22 sf nf pf ks)) HU0.out 0).mono ?_
  rintro e W1 ⟨rfl, hb⟩
  have HI1 := Lib.hid (HI.out.stays hb)
  have HF1 := Lib.hid (HF.out.stays hb)
  have HU1 := Lib.hid (HU0.out.below hb)
  have HR1 := Lib.hid (HR0.out.stays hb)
  have HB1 := Lib.hid (HB0.out.trans (hb.mono HB0.out.size))
  clear hb
  unfold TmV
  refine hK.out _ _ (fun _ => HF1.out) ?_
  clear hK K
  refine AnyE.one (i := 3) (by kernel_rfl) rfl (by rfl) (fun K hK => ?_)
  go_simp
  refine (termOf_any (t := (.mk 22 sf nf pf ks)) HU1.out 1).mono ?_
  rintro e W2 ⟨rfl, hb⟩
  have HI2 := Lib.hid (HI1.out.stays hb)
  have HF2 := Lib.hid (HF1.out.stays hb)
  have HU2 := Lib.hid (HU1.out.below hb)
  have HR2 := Lib.hid (HR1.out.stays hb)
  have HB2 := Lib.hid (HB1.out.trans (hb.mono HB1.out.size))
  clear hb
  unfold TmV
  refine hK.out _ _ (fun _ => HF2.out) ?_
  clear hK K
  refine AnyE.one (i := 5) (by kernel_rfl) rfl (by rfl) (fun K hK => ?_)
  have hcx : W2.cell? ⟨w1.heap.size + 1, 0, none⟩ = some (.int .i64 0) := HI2.out.cell 0
  have hfx := HI2.out.frozen 0
  go_simp
  clear hcx hfx
  have HI3 := Lib.hid (show Blk _ _ (insCells (⟨2, t.place, t.text, e0, tm0, tm0, [], 0, false⟩ : Ins) (.slice none 0 0)) 43 from HI2.out.setSame 0 (.int .i64 2))
  have HF3 := Lib.hid (HF2.out.setOther ⟨w1.heap.size + 1, 0, none⟩ (.int .i64 2) (by show w1.heap.size ≠ w1.heap.size + 1; omega))
  have HU3 := Lib.hid (HU2.out.keep (S' := fun b => b < w.heap.size) (w' := W2.setCell ⟨w1.heap.size + 1, 0, none⟩ (.int .i64 2)) fun b hb hl => ⟨hb, Below.heap_setCell _ _ _ _ (by show b ≠ w1.heap.size + 1; omega)⟩)
  have HR3 := Lib.hid (HR2.out.setOther ⟨w1.heap.size + 1, 0, none⟩ (.int .i64 2) (by show w.heap.size + 1 ≠ w1.heap.size + 1; omega))
  have HB3 := Lib.hid (HB2.out.setCell (p := ⟨w1.heap.size + 1, 0, none⟩) (by show w.heap.size ≤ w1.heap.size + 1; omega) (.int .i64 2))
  generalize W2.setCell ⟨w1.heap.size + 1, 0, none⟩ (.int .i64 2) = W3 at HI3 HF3 HU3 HR3 HB3 ⊢
  refine hK.out _ _ (fun _ => HF3.out) ?_
  clear hK K
  refine AnyE.one (i := 6) (by kernel_rfl) rfl (by rfl) (fun K hK => ?_)
  go_simp
  refine hK.out _ _ (fun _ => HF3.out) ?_
  clear hK K
  refine AnyE.one (i := 7) (by kernel_rfl) rfl (by rfl) (fun K hK => ?_)
  refine wp_store_mid 40 (.tmp 42) (.tmp 38) rfl (w1.heap.size + 1) 4 #[.string (tmOf (kidP (.mk 22 sf nf pf ks) 0)).name, .int .i64 (tmOf (kidP (.mk 22 sf nf pf ks) 0)).num] rfl rfl (HI3.out.thereN 4 2 (show 4 + 2 ≤ 11 by omega)) Tryd.sizeTerm (all_oneCell_toArray (tmCells_one (tmOf (kidP (.mk 22 sf nf pf ks) 0)))) ?_
  have HI4 := Lib.hid (show Blk (W3.setCells (w1.heap.size + 1) 4 [.string (tmOf (kidP (.mk 22 sf nf pf ks) 0)).name, .int .i64 (tmOf (kidP (.mk 22 sf nf pf ks) 0)).num]) _ (insCells (⟨2, t.place, t.text, e0, tmOf (kidP (.mk 22 sf nf pf ks) 0), tm0, [], 0, false⟩ : Ins) (.slice none 0 0)) 43 from HI3.out.setCells2 4 _ _)
  have HF4 := Lib.hid (show Blk (W3.setCells (w1.heap.size + 1) 4 [.string (tmOf (kidP (.mk 22 sf nf pf ks) 0)).name, .int .i64 (tmOf (kidP (.mk 22 sf nf pf ks) 0)).num]) _ _ _ from HF3.out.other2 (by omega) 4 _ _)
  have HR4 := Lib.hid (show Blk (W3.setCells (w1.heap.size + 1) 4 [.string (tmOf (kidP (.mk 22 sf nf pf ks) 0)).name, .int .i64 (tmOf (kidP (.mk 22 sf nf pf ks) 0)).num]) _ _ _ from HR3.out.other2 (by omega) 4 _ _)
  have HB4 := Lib.hid (show Below _ _ (W3.setCells (w1.heap.size + 1) 4 [.string (tmOf (kidP (.mk 22 sf nf pf ks) 0)).name, .int .i64 (tmOf (kidP (.mk 22 sf nf pf ks) 0)).num]) from Below.cells2 HB3.out (by omega) 4 _ _)
  refine hK.out _ _ (fun _ => HF4.out) ?_
  clear hK K
  refine AnyE.one (i := 8) (by kernel_rfl) rfl (by rfl) (fun K hK => ?_)
  go_simp
  refine hK.out _ _ (fun _ => HF4.out) ?_
  clear hK K
  refine AnyE.one (i := 9) (by kernel_rfl) rfl (by rfl) (fun K hK => ?_)
  refine wp_store_mid 40 (.tmp 43) (.tmp 40) rfl (w1.heap.size + 1) 6 #[.string (tmOf (kidP (.mk 22 sf nf pf ks) 1)).name, .int .i64 (tmOf (kidP (.mk 22 sf nf pf ks) 1)).num] rfl rfl (HI4.out.thereN 6 2 (show 6 + 2 ≤ 11 by omega)) Tryd.sizeTerm (all_oneCell_toArray (tmCells_one (tmOf (kidP (.mk 22 sf nf pf ks) 1)))) ?_
  have HI5 := Lib.hid (show Blk ((W3.setCells (w1.heap.size + 1) 4 [.string (tmOf (kidP (.mk 22 sf nf pf ks) 0)).name, .int .i64 (tmOf (kidP (.mk 22 sf nf pf ks) 0)).num]).setCells (w1.heap.size + 1) 6 [.string (tmOf (kidP (.mk 22 sf nf pf ks) 1)).name, .int .i64 (tmOf (kidP (.mk 22 sf nf pf ks) 1)).num]) _ (insCells (⟨2, t.place, t.text, e0, tmOf (kidP (.mk 22 sf nf pf ks) 0), tmOf (kidP (.mk 22 sf nf pf ks) 1), [], 0, false⟩ : Ins) (.slice none 0 0)) 43 from HI4.out.setCells2 6 _ _)
  have HF5 := Lib.hid (show Blk ((W3.setCells (w1.heap.size + 1) 4 [.string (tmOf (kidP (.mk 22 sf nf pf ks) 0)).name, .int .i64 (tmOf (kidP (.mk 22 sf nf pf ks) 0)).num]).setCells (w1.heap.size + 1) 6 [.string (tmOf (kidP (.mk 22 sf nf pf ks) 1)).name, .int .i64 (tmOf (kidP (.mk 22 sf nf pf ks) 1)).num]) _ _ _ from HF4.out.other2 (by omega) 6 _ _)
  have HR5 := Lib.hid (show Blk ((W3.setCells (w1.heap.size + 1) 4 [.string (tmOf (kidP (.mk 22 sf nf pf ks) 0)).name, .int .i64 (tmOf (kidP (.mk 22 sf nf pf ks) 0)).num]).setCells (w1.heap.size + 1) 6 [.string (tmOf (kidP (.mk 22 sf nf pf ks) 1)).name, .int .i64 (tmOf (kidP (.mk 22 sf nf pf ks) 1)).num]) _ _ _ from HR4.out.other2 (by omega) 6 _ _)
  have HB5 := Lib.hid (show Below _ _ ((W3.setCells (w1.heap.size + 1) 4 [.string (tmOf (kidP (.mk 22 sf nf pf ks) 0)).name, .int .i64 (tmOf (kidP (.mk 22 sf nf pf ks) 0)).num]).setCells (w1.heap.size + 1) 6 [.string (tmOf (kidP (.mk 22 sf nf pf ks) 1)).name, .int .i64 (tmOf (kidP (.mk 22 sf nf pf ks) 1)).num]) from Below.cells2 HB4.out (by omega) 6 _ _)
  refine hK.out _ _ (fun h => absurd rfl h) ?_
  clear hK K
  refine AnyE.done (by kernel_rfl) ?_ _
  go_wp2_with (first
    | ((with_reducible refine at_ld 43 (.tmp 4) ?_); refine wpList_load_blk rfl 43 (.tmp 4) rfl (w1.heap.size + 1) (insCells (⟨2, t.place, t.text, e0, tmOf (kidP (.mk 22 sf nf pf ks) 0), tmOf (kidP (.mk 22 sf nf pf ks) 1), [], 0, false⟩ : Ins) (.slice none 0 0)) rfl HI5.out Tryd.underlying43 rfl Tryd.sizeInstr ?_)
    | ((with_reducible refine at_st 43 (.tmp 2) ?_); refine wpList_store_blk rfl 43 (.tmp 2) (.tmp 76) rfl (w.heap.size + 1) (insCells (⟨2, t.place, t.text, e0, tmOf (kidP (.mk 22 sf nf pf ks) 0), tmOf (kidP (.mk 22 sf nf pf ks) 1), [], 0, false⟩ : Ins) (.slice none 0 0)) rfl rfl HR5.out Tryd.sizeInstr rfl (insCells_one _ _ rfl) ?_))

  exact ret_blk (cs := (insCells (⟨2, t.place, t.text, e0, tmOf (kidP (.mk 22 sf nf pf ks) 0), tmOf (kidP (.mk 22 sf nf pf ks) 1), [], 0, false⟩ : Ins) (.slice none 0 0))) Tryd.results81 rfl HR5.out Tryd.underlying43 rfl Tryd.sizeInstr rfl ⟨_, rfl, ArgsAt.nil _ _, Below.row HB5.out (by omega) _⟩

set_option maxRecDepth 100000 in
set_option maxHeartbeats 2000000 in
theorem set_23 {w : World} {t : T} {S : Nat → Prop} {kv : Value} (hk : KAt 25 w t.kids S kv) {sf : ByteArray} {nf : Int} {pf : Nat} {ks : List T} (hf : kidP t 0 = .mk 23 sf nf pf ks) :
    Calls Tryd.prog 81 #[NodeV t kv] w (InsPost w (setI t)) := by
  have hs : setI t = ⟨3, t.place, t.text, e0, ⟨e0, nf⟩, tm0, [], 0, false⟩ := by unfold setI; rw [hf]; rfl
  rw [hs]
  clear hs
  have HB := Lib.hid (show Below w.heap.size w ((w.alloc (.cells (nodeCells t kv).toArray 25)).alloc (.cells (insCells ins0 (.slice none 0 0)).toArray 43)) from (((Below.refl _ _).alloc (Nat.le_refl _) _).alloc (by simp) _))
  have HN := Lib.hid (show Blk ((w.alloc (.cells (nodeCells t kv).toArray 25)).alloc (.cells (insCells ins0 (.slice none 0 0)).toArray 43)) w.heap.size (nodeCells t kv) 25 from ((Blk.new w (nodeCells t kv) 25).alloc _))
  have HRes := Lib.hid (Blk.new2 w (.cells (nodeCells t kv).toArray 25) (insCells ins0 (.slice none 0 0)) 43)
  have hko := kidOf_any (((hk.mono (S' := fun b => b < w.heap.size) fun b _ hl => hl).alloc (.cells (nodeCells t kv).toArray 25)).alloc (.cells (insCells ins0 (.slice none 0 0)).toArray 43)) 0
  rw [hf] at hko
  have HKO := Lib.hid hko
  clear hk hko hf
  unfold NodeV
  go_enter Tryd.func81, Tryd.ntmps81
  go_wp2_with fail
  refine HKO.out.mono ?_
  rintro e w1 ⟨u, rfl, hu, hb⟩
  clear HKO
  have hn1 := HN.out.stays hb
  have hr1 := HRes.out.stays hb
  have hc1 := hn1.cell 1
  have hc3 := hn1.cell 3
  simp only [nodeCells, List.getElem?_cons_zero, List.getElem?_cons_succ] at hc1 hc3
  have hl1 := hr1.lt
  have hl0 := hn1.lt
  have hne0 : w.heap.size ≠ w1.heap.size := by omega
  have hne1 : w.heap.size + 1 ≠ w1.heap.size := by omega
  obtain ⟨ua, un, uc, rfl⟩ := hu.slice
  have HB1 := Lib.hid (HB.out.trans (hb.mono HB.out.size))
  have HR := Lib.hid hr1
  have HU := Lib.hid hu
  clear hn1 hr1 hb HB HN HRes hu
  unfold NodeV
  simp only [kind_mk, text_mk, num_mk, place_mk]
  go_wp2_with fail
  obtain ⟨W0, hW0, HI, HF, HU0, HR0, HB0⟩ : ∃ W0 : World, ((w1.alloc (.cells (nodeCells (.mk 23 sf nf pf ks) (.slice ua un uc)).toArray 25)).alloc (.cells (insCells (⟨0, t.place, t.text, e0, tm0, tm0, [], 0, false⟩ : Ins) (.slice none 0 0)).toArray 43)).drew = W0 ∧ Hid (Blk W0 (w1.heap.size + 1) (insCells (⟨0, t.place, t.text, e0, tm0, tm0, [], 0, false⟩ : Ins) (.slice none 0 0)) 43) ∧ Hid (Blk W0 w1.heap.size (nodeCells (.mk 23 sf nf pf ks) (.slice ua un uc)) 25) ∧ Hid (KAt 25 W0 ks (fun b => b < w.heap.size) (.slice ua un uc)) ∧ Hid (Blk W0 (w.heap.size + 1) (insCells ins0 (.slice none 0 0)) 43) ∧ Hid (Below w.heap.size w W0) :=
    ⟨_, rfl, Lib.hid (Blk.new2 w1 _ _ _).drew, Lib.hid ((Blk.new w1 _ _).alloc _).drew, Lib.hid ((HU.out.alloc _).alloc _).drew, Lib.hid ((HR.out.alloc _).alloc _).drew, Lib.hid (((HB1.out.alloc (by omega) _).alloc (by simp; omega) _).drew)⟩
  clear HU HR HB1 hc1 hc3
  refine AnyE.begin3 (S := fun W => Blk W w1.heap.size (nodeCells (.mk 23 sf nf pf ks) (.slice ua un uc)) 25) hW0 (by kernel_rfl) HF.out (fun hS => ?_)
  clear hW0
  refine AnyE.take (i := 0) (v := .pointer (some ⟨w1.heap.size, 2, none⟩)) rfl (by kernel_rfl) (by kernel_rfl) (by kernel_rfl) (by kernel_rfl) (fun _ _ _ h => h) (Or.inl ⟨by rfl, fun W _ => by go_simp⟩) hS ?_
  refine AnyE.take (i := 1) (v := .int .i64 nf) rfl (by kernel_rfl) (by kernel_rfl) (by kernel_rfl) (by kernel_rfl) (fun _ _ _ h => h) (Or.inl ⟨by rfl, fun W hW => by have hcx : W.cell? ⟨w1.heap.size, 2, none⟩ = some (.int .i64 nf) := hW.cell 2; go_simp⟩) hS ?_
  refine AnyE.take (i := 2) (v := .agg #[.string ⟨#[]⟩, .int .i64 nf]) rfl (by kernel_rfl) (by kernel_rfl) (by kernel_rfl) (by kernel_rfl) (fun _ _ _ h => h) (Or.inl ⟨by rfl, fun W _ => by go_simp⟩) hS ?_
  refine AnyE.take (i := 3) (v := .pointer (some ⟨w1.heap.size + 1, 0, none⟩)) rfl (by kernel_rfl) (by kernel_rfl) (by kernel_rfl) (by kernel_rfl) (fun _ _ _ h => h) (Or.inl ⟨by rfl, fun W _ => by go_simp⟩) hS ?_
  refine AnyE.one (i := 4) (by kernel_rfl) rfl (by rfl) (fun K hK => ?_)
  have hcx : W0.cell? ⟨w1.heap.size + 1, 0, none⟩ = some (.int .i64 0) := HI.out.cell 0
  have hfx := HI.out.frozen 0
  go_simp
  clear hcx hfx
  have HI1 := Lib.hid (show Blk _ _ (insCells (⟨3, t.place, t.text, e0, tm0, tm0, [], 0, false⟩ : Ins) (.slice none 0 0)) 43 from HI.out.setSame 0 (.int .i64 3))
  have HF1 := Lib.hid (HF.out.setOther ⟨w1.heap.size + 1, 0, none⟩ (.int .i64 3) (by show w1.heap.size ≠ w1.heap.size + 1; omega))
  have HU1 := Lib.hid (HU0.out.keep (S' := fun b => b < w.heap.size) (w' := W0.setCell ⟨w1.heap.size + 1, 0, none⟩ (.int .i64 3)) fun b hb hl => ⟨hb, Below.heap_setCell _ _ _ _ (by show b ≠ w1.heap.size + 1; omega)⟩)
  have HR1 := Lib.hid (HR0.out.setOther ⟨w1.heap.size + 1, 0, none⟩ (.int .i64 3) (by show w.heap.size + 1 ≠ w1.heap.size + 1; omega))
  have HB1 := Lib.hid (HB0.out.setCell (p := ⟨w1.heap.size + 1, 0, none⟩) (by show w.heap.size ≤ w1.heap.size + 1; omega) (.int .i64 3))
  generalize W0.setCell ⟨w1.heap.size + 1, 0, none⟩ (.int .i64 3) = W1 at HI1 HF1 HU1 HR1 HB1 ⊢
  refine hK.out _ _ (fun _ => HF1.out) ?_
  clear hK K
  refine AnyE.one (i := 5) (by kernel_rfl) rfl (by rfl) (fun K hK => ?_)
  go_simp
  refine hK.out _ _ (fun _ => HF1.out) ?_
  clear hK K
  refine AnyE.one (i := 6) (by kernel_rfl) rfl (by rfl) (fun K hK => ?_)
  refine wp_store_mid 40 (.tmp 50) (.tmp 48) rfl (w1.heap.size + 1) 4 #[.string ((⟨e0, nf⟩ : Tm)).name, .int .i64 ((⟨e0, nf⟩ : Tm)).num] rfl rfl (HI1.out.thereN 4 2 (show 4 + 2 ≤ 11 by omega)) Tryd.sizeTerm (all_oneCell_toArray (tmCells_one ((⟨e0, nf⟩ : Tm)))) ?_
  have HI2 := Lib.hid (show Blk (W1.setCells (w1.heap.size + 1) 4 [.string ((⟨e0, nf⟩ : Tm)).name, .int .i64 ((⟨e0, nf⟩ : Tm)).num]) _ (insCells (⟨3, t.place, t.text, e0, (⟨e0, nf⟩ : Tm), tm0, [], 0, false⟩ : Ins) (.slice none 0 0)) 43 from HI1.out.setCells2 4 _ _)
  have HF2 := Lib.hid (show Blk (W1.setCells (w1.heap.size + 1) 4 [.string ((⟨e0, nf⟩ : Tm)).name, .int .i64 ((⟨e0, nf⟩ : Tm)).num]) _ _ _ from HF1.out.other2 (by omega) 4 _ _)
  have HR2 := Lib.hid (show Blk (W1.setCells (w1.heap.size + 1) 4 [.string ((⟨e0, nf⟩ : Tm)).name, .int .i64 ((⟨e0, nf⟩ : Tm)).num]) _ _ _ from HR1.out.other2 (by omega) 4 _ _)
  have HB2 := Lib.hid (show Below _ _ (W1.setCells (w1.heap.size + 1) 4 [.string ((⟨e0, nf⟩ : Tm)).name, .int .i64 ((⟨e0, nf⟩ : Tm)).num]) from Below.cells2 HB1.out (by omega) 4 _ _)
  refine hK.out _ _ (fun h => absurd rfl h) ?_
  clear hK K
  refine AnyE.done (by kernel_rfl) ?_ _
  go_wp2_with (first
    | ((with_reducible refine at_ld 43 (.tmp 4) ?_); refine wpList_load_blk rfl 43 (.tmp 4) rfl (w1.heap.size + 1) (insCells (⟨3, t.place, t.text, e0, (⟨e0, nf⟩ : Tm), tm0, [], 0, false⟩ : Ins) (.slice none 0 0)) rfl HI2.out Tryd.underlying43 rfl Tryd.sizeInstr ?_)
    | ((with_reducible refine at_st 43 (.tmp 2) ?_); refine wpList_store_blk rfl 43 (.tmp 2) (.tmp 76) rfl (w.heap.size + 1) (insCells (⟨3, t.place, t.text, e0, (⟨e0, nf⟩ : Tm), tm0, [], 0, false⟩ : Ins) (.slice none 0 0)) rfl rfl HR2.out Tryd.sizeInstr rfl (insCells_one _ _ rfl) ?_))

  exact ret_blk (cs := (insCells (⟨3, t.place, t.text, e0, (⟨e0, nf⟩ : Tm), tm0, [], 0, false⟩ : Ins) (.slice none 0 0))) Tryd.results81 rfl HR2.out Tryd.underlying43 rfl Tryd.sizeInstr rfl ⟨_, rfl, ArgsAt.nil _ _, Below.row HB2.out (by omega) _⟩

set_option maxRecDepth 100000 in
set_option maxHeartbeats 2000000 in
theorem set_24 {w : World} {t : T} {S : Nat → Prop} {kv : Value} (hk : KAt 25 w t.kids S kv) {sf : ByteArray} {nf : Int} {pf : Nat} {ks : List T} (hf : kidP t 0 = .mk 24 sf nf pf ks) :
    Calls Tryd.prog 81 #[NodeV t kv] w (InsPost w (setI t)) := by
  have hs : setI t = ⟨4, t.place, t.text, e0, ⟨sf, 0⟩, tm0, [], 0, false⟩ := by unfold setI; rw [hf]; rfl
  rw [hs]
  clear hs
  have HB := Lib.hid (show Below w.heap.size w ((w.alloc (.cells (nodeCells t kv).toArray 25)).alloc (.cells (insCells ins0 (.slice none 0 0)).toArray 43)) from (((Below.refl _ _).alloc (Nat.le_refl _) _).alloc (by simp) _))
  have HN := Lib.hid (show Blk ((w.alloc (.cells (nodeCells t kv).toArray 25)).alloc (.cells (insCells ins0 (.slice none 0 0)).toArray 43)) w.heap.size (nodeCells t kv) 25 from ((Blk.new w (nodeCells t kv) 25).alloc _))
  have HRes := Lib.hid (Blk.new2 w (.cells (nodeCells t kv).toArray 25) (insCells ins0 (.slice none 0 0)) 43)
  have hko := kidOf_any (((hk.mono (S' := fun b => b < w.heap.size) fun b _ hl => hl).alloc (.cells (nodeCells t kv).toArray 25)).alloc (.cells (insCells ins0 (.slice none 0 0)).toArray 43)) 0
  rw [hf] at hko
  have HKO := Lib.hid hko
  clear hk hko hf
  unfold NodeV
  go_enter Tryd.func81, Tryd.ntmps81
  go_wp2_with fail
  refine HKO.out.mono ?_
  rintro e w1 ⟨u, rfl, hu, hb⟩
  clear HKO
  have hn1 := HN.out.stays hb
  have hr1 := HRes.out.stays hb
  have hc1 := hn1.cell 1
  have hc3 := hn1.cell 3
  simp only [nodeCells, List.getElem?_cons_zero, List.getElem?_cons_succ] at hc1 hc3
  have hl1 := hr1.lt
  have hl0 := hn1.lt
  have hne0 : w.heap.size ≠ w1.heap.size := by omega
  have hne1 : w.heap.size + 1 ≠ w1.heap.size := by omega
  obtain ⟨ua, un, uc, rfl⟩ := hu.slice
  have HB1 := Lib.hid (HB.out.trans (hb.mono HB.out.size))
  have HR := Lib.hid hr1
  have HU := Lib.hid hu
  clear hn1 hr1 hb HB HN HRes hu
  unfold NodeV
  simp only [kind_mk, text_mk, num_mk, place_mk]
  go_wp2_with fail
  obtain ⟨W0, hW0, HI, HF, HU0, HR0, HB0⟩ : ∃ W0 : World, ((w1.alloc (.cells (nodeCells (.mk 24 sf nf pf ks) (.slice ua un uc)).toArray 25)).alloc (.cells (insCells (⟨0, t.place, t.text, e0, tm0, tm0, [], 0, false⟩ : Ins) (.slice none 0 0)).toArray 43)).drew = W0 ∧ Hid (Blk W0 (w1.heap.size + 1) (insCells (⟨0, t.place, t.text, e0, tm0, tm0, [], 0, false⟩ : Ins) (.slice none 0 0)) 43) ∧ Hid (Blk W0 w1.heap.size (nodeCells (.mk 24 sf nf pf ks) (.slice ua un uc)) 25) ∧ Hid (KAt 25 W0 ks (fun b => b < w.heap.size) (.slice ua un uc)) ∧ Hid (Blk W0 (w.heap.size + 1) (insCells ins0 (.slice none 0 0)) 43) ∧ Hid (Below w.heap.size w W0) :=
    ⟨_, rfl, Lib.hid (Blk.new2 w1 _ _ _).drew, Lib.hid ((Blk.new w1 _ _).alloc _).drew, Lib.hid ((HU.out.alloc _).alloc _).drew, Lib.hid ((HR.out.alloc _).alloc _).drew, Lib.hid (((HB1.out.alloc (by omega) _).alloc (by simp; omega) _).drew)⟩
  clear HU HR HB1 hc1 hc3
  refine AnyE.begin3 (S := fun W => Blk W w1.heap.size (nodeCells (.mk 24 sf nf pf ks) (.slice ua un uc)) 25) hW0 (by kernel_rfl) HF.out (fun hS => ?_)
  clear hW0
  refine AnyE.take (i := 0) (v := .pointer (some ⟨w1.heap.size, 1, none⟩)) rfl (by kernel_rfl) (by kernel_rfl) (by kernel_rfl) (by kernel_rfl) (fun _ _ _ h => h) (Or.inl ⟨by rfl, fun W _ => by go_simp⟩) hS ?_
  refine AnyE.take (i := 1) (v := .string sf) rfl (by kernel_rfl) (by kernel_rfl) (by kernel_rfl) (by kernel_rfl) (fun _ _ _ h => h) (Or.inl ⟨by rfl, fun W hW => by have hcx : W.cell? ⟨w1.heap.size, 1, none⟩ = some (.string sf) := hW.cell 1; go_simp⟩) hS ?_
  refine AnyE.take (i := 2) (v := .agg #[.string sf, .int .i64 0]) rfl (by kernel_rfl) (by kernel_rfl) (by kernel_rfl) (by kernel_rfl) (fun _ _ _ h => h) (Or.inl ⟨by rfl, fun W _ => by go_simp⟩) hS ?_
  refine AnyE.take (i := 3) (v := .pointer (some ⟨w1.heap.size + 1, 0, none⟩)) rfl (by kernel_rfl) (by kernel_rfl) (by kernel_rfl) (by kernel_rfl) (fun _ _ _ h => h) (Or.inl ⟨by rfl, fun W _ => by go_simp⟩) hS ?_
  refine AnyE.one (i := 4) (by kernel_rfl) rfl (by rfl) (fun K hK => ?_)
  have hcx : W0.cell? ⟨w1.heap.size + 1, 0, none⟩ = some (.int .i64 0) := HI.out.cell 0
  have hfx := HI.out.frozen 0
  go_simp
  clear hcx hfx
  have HI1 := Lib.hid (show Blk _ _ (insCells (⟨4, t.place, t.text, e0, tm0, tm0, [], 0, false⟩ : Ins) (.slice none 0 0)) 43 from HI.out.setSame 0 (.int .i64 4))
  have HF1 := Lib.hid (HF.out.setOther ⟨w1.heap.size + 1, 0, none⟩ (.int .i64 4) (by show w1.heap.size ≠ w1.heap.size + 1; omega))
  have HU1 := Lib.hid (HU0.out.keep (S' := fun b => b < w.heap.size) (w' := W0.setCell ⟨w1.heap.size + 1, 0, none⟩ (.int .i64 4)) fun b hb hl => ⟨hb, Below.heap_setCell _ _ _ _ (by show b ≠ w1.heap.size + 1; omega)⟩)
  have HR1 := Lib.hid (HR0.out.setOther ⟨w1.heap.size + 1, 0, none⟩ (.int .i64 4) (by show w.heap.size + 1 ≠ w1.heap.size + 1; omega))
  have HB1 := Lib.hid (HB0.out.setCell (p := ⟨w1.heap.size + 1, 0, none⟩) (by show w.heap.size ≤ w1.heap.size + 1; omega) (.int .i64 4))
  generalize W0.setCell ⟨w1.heap.size + 1, 0, none⟩ (.int .i64 4) = W1 at HI1 HF1 HU1 HR1 HB1 ⊢
  refine hK.out _ _ (fun _ => HF1.out) ?_
  clear hK K
  refine AnyE.one (i := 5) (by kernel_rfl) rfl (by rfl) (fun K hK => ?_)
  go_simp
  refine hK.out _ _ (fun _ => HF1.out) ?_
  clear hK K
  refine AnyE.one (i := 6) (by kernel_rfl) rfl (by rfl) (fun K hK => ?_)
  refine wp_store_mid 40 (.tmp 57) (.tmp 55) rfl (w1.heap.size + 1) 4 #[.string ((⟨sf, 0⟩ : Tm)).name, .int .i64 ((⟨sf, 0⟩ : Tm)).num] rfl rfl (HI1.out.thereN 4 2 (show 4 + 2 ≤ 11 by omega)) Tryd.sizeTerm (all_oneCell_toArray (tmCells_one ((⟨sf, 0⟩ : Tm)))) ?_
  have HI2 := Lib.hid (show Blk (W1.setCells (w1.heap.size + 1) 4 [.string ((⟨sf, 0⟩ : Tm)).name, .int .i64 ((⟨sf, 0⟩ : Tm)).num]) _ (insCells (⟨4, t.place, t.text, e0, (⟨sf, 0⟩ : Tm), tm0, [], 0, false⟩ : Ins) (.slice none 0 0)) 43 from HI1.out.setCells2 4 _ _)
  have HF2 := Lib.hid (show Blk (W1.setCells (w1.heap.size + 1) 4 [.string ((⟨sf, 0⟩ : Tm)).name, .int .i64 ((⟨sf, 0⟩ : Tm)).num]) _ _ _ from HF1.out.other2 (by omega) 4 _ _)
  have HR2 := Lib.hid (show Blk (W1.setCells (w1.heap.size + 1) 4 [.string ((⟨sf, 0⟩ : Tm)).name, .int .i64 ((⟨sf, 0⟩ : Tm)).num]) _ _ _ from HR1.out.other2 (by omega) 4 _ _)
  have HB2 := Lib.hid (show Below _ _ (W1.setCells (w1.heap.size + 1) 4 [.string ((⟨sf, 0⟩ : Tm)).name, .int .i64 ((⟨sf, 0⟩ : Tm)).num]) from Below.cells2 HB1.out (by omega) 4 _ _)
  refine hK.out _ _ (fun h => absurd rfl h) ?_
  clear hK K
  refine AnyE.done (by kernel_rfl) ?_ _
  go_wp2_with (first
    | ((with_reducible refine at_ld 43 (.tmp 4) ?_); refine wpList_load_blk rfl 43 (.tmp 4) rfl (w1.heap.size + 1) (insCells (⟨4, t.place, t.text, e0, (⟨sf, 0⟩ : Tm), tm0, [], 0, false⟩ : Ins) (.slice none 0 0)) rfl HI2.out Tryd.underlying43 rfl Tryd.sizeInstr ?_)
    | ((with_reducible refine at_st 43 (.tmp 2) ?_); refine wpList_store_blk rfl 43 (.tmp 2) (.tmp 76) rfl (w.heap.size + 1) (insCells (⟨4, t.place, t.text, e0, (⟨sf, 0⟩ : Tm), tm0, [], 0, false⟩ : Ins) (.slice none 0 0)) rfl rfl HR2.out Tryd.sizeInstr rfl (insCells_one _ _ rfl) ?_))

  exact ret_blk (cs := (insCells (⟨4, t.place, t.text, e0, (⟨sf, 0⟩ : Tm), tm0, [], 0, false⟩ : Ins) (.slice none 0 0))) Tryd.results81 rfl HR2.out Tryd.underlying43 rfl Tryd.sizeInstr rfl ⟨_, rfl, ArgsAt.nil _ _, Below.row HB2.out (by omega) _⟩

set_option maxRecDepth 100000 in
set_option maxHeartbeats 2000000 in
theorem set_25 {w : World} {t : T} {S : Nat → Prop} {kv : Value} (hk : KAt 25 w t.kids S kv) {sf : ByteArray} {nf : Int} {pf : Nat} {ks : List T} (hf : kidP t 0 = .mk 25 sf nf pf ks) :
    Calls Tryd.prog 81 #[NodeV t kv] w (InsPost w (setI t)) := by
  have hs : setI t = ⟨5, t.place, t.text, sf, tmOf (kidP (.mk 25 sf nf pf ks) 0), tm0, [], 0, false⟩ := by unfold setI; rw [hf]; rfl
  rw [hs]
  clear hs
  have HB := Lib.hid (show Below w.heap.size w ((w.alloc (.cells (nodeCells t kv).toArray 25)).alloc (.cells (insCells ins0 (.slice none 0 0)).toArray 43)) from (((Below.refl _ _).alloc (Nat.le_refl _) _).alloc (by simp) _))
  have HN := Lib.hid (show Blk ((w.alloc (.cells (nodeCells t kv).toArray 25)).alloc (.cells (insCells ins0 (.slice none 0 0)).toArray 43)) w.heap.size (nodeCells t kv) 25 from ((Blk.new w (nodeCells t kv) 25).alloc _))
  have HRes := Lib.hid (Blk.new2 w (.cells (nodeCells t kv).toArray 25) (insCells ins0 (.slice none 0 0)) 43)
  have hko := kidOf_any (((hk.mono (S' := fun b => b < w.heap.size) fun b _ hl => hl).alloc (.cells (nodeCells t kv).toArray 25)).alloc (.cells (insCells ins0 (.slice none 0 0)).toArray 43)) 0
  rw [hf] at hko
  have HKO := Lib.hid hko
  clear hk hko hf
  unfold NodeV
  go_enter Tryd.func81, Tryd.ntmps81
  go_wp2_with fail
  refine HKO.out.mono ?_
  rintro e w1 ⟨u, rfl, hu, hb⟩
  clear HKO
  have hn1 := HN.out.stays hb
  have hr1 := HRes.out.stays hb
  have hc1 := hn1.cell 1
  have hc3 := hn1.cell 3
  simp only [nodeCells, List.getElem?_cons_zero, List.getElem?_cons_succ] at hc1 hc3
  have hl1 := hr1.lt
  have hl0 := hn1.lt
  have hne0 : w.heap.size ≠ w1.heap.size := by omega
  have hne1 : w.heap.size + 1 ≠ w1.heap.size := by omega
  obtain ⟨ua, un, uc, rfl⟩ := hu.slice
  have HB1 := Lib.hid (HB.out.trans (hb.mono HB.out.size))
  have HR := Lib.hid hr1
  have HU := Lib.hid hu
  clear hn1 hr1 hb HB HN HRes hu
  unfold NodeV
  simp only [kind_mk, text_mk, num_mk, place_mk]
  go_wp2_with fail
  obtain ⟨W0, hW0, HI, HF, HU0, HR0, HB0⟩ : ∃ W0 : World, ((w1.alloc (.cells (nodeCells (.mk 25 sf nf pf ks) (.slice ua un uc)).toArray 25)).alloc (.cells (insCells (⟨0, t.place, t.text, e0, tm0, tm0, [], 0, false⟩ : Ins) (.slice none 0 0)).toArray 43)).drew = W0 ∧ Hid (Blk W0 (w1.heap.size + 1) (insCells (⟨0, t.place, t.text, e0, tm0, tm0, [], 0, false⟩ : Ins) (.slice none 0 0)) 43) ∧ Hid (Blk W0 w1.heap.size (nodeCells (.mk 25 sf nf pf ks) (.slice ua un uc)) 25) ∧ Hid (KAt 25 W0 ks (fun b => b < w.heap.size) (.slice ua un uc)) ∧ Hid (Blk W0 (w.heap.size + 1) (insCells ins0 (.slice none 0 0)) 43) ∧ Hid (Below w.heap.size w W0) :=
    ⟨_, rfl, Lib.hid (Blk.new2 w1 _ _ _).drew, Lib.hid ((Blk.new w1 _ _).alloc _).drew, Lib.hid ((HU.out.alloc _).alloc _).drew, Lib.hid ((HR.out.alloc _).alloc _).drew, Lib.hid (((HB1.out.alloc (by omega) _).alloc (by simp; omega) _).drew)⟩
  clear HU HR HB1 hc1 hc3
  refine AnyE.begin3 (S := fun W => Blk W w1.heap.size (nodeCells (.mk 25 sf nf pf ks) (.slice ua un uc)) 25) hW0 (by kernel_rfl) HF.out (fun hS => ?_)
  clear hW0
  refine AnyE.take (i := 0) (v := .pointer (some ⟨w1.heap.size, 1, none⟩)) rfl (by kernel_rfl) (by kernel_rfl) (by kernel_rfl) (by kernel_rfl) (fun _ _ _ h => h) (Or.inl ⟨by rfl, fun W _ => by go_simp⟩) hS ?_
  refine AnyE.take (i := 1) (v := .string sf) rfl (by kernel_rfl) (by kernel_rfl) (by kernel_rfl) (by kernel_rfl) (fun _ _ _ h => h) (Or.inl ⟨by rfl, fun W hW => by have hcx : W.cell? ⟨w1.heap.size, 1, none⟩ = some (.string sf) := hW.cell 1; go_simp⟩) hS ?_
  refine AnyE.take (i := 2) (v := .agg #[.int .i64 25, .string sf, .int .i64 nf, .int .i64 pf, .slice ua un uc]) rfl (by kernel_rfl) (by kernel_rfl) (by kernel_rfl) (by kernel_rfl) (fun _ _ _ h => h) (yieldsIf_load_mid (cs := nodeCells (.mk 25 sf nf pf ks) (.slice ua un uc)) (by rfl) 25 (.tmp 3) rfl (w1.heap.size) 0 rfl _ (fun W hW j v hj => by rw [Nat.zero_add, hW.cell j]; exact hj) Tryd.underlying25 rfl Tryd.sizeNode) hS ?_
  refine AnyE.take (i := 4) (v := .pointer (some ⟨w1.heap.size + 1, 0, none⟩)) rfl (by kernel_rfl) (by kernel_rfl) (by kernel_rfl) (by kernel_rfl) (fun _ _ _ h => h) (Or.inl ⟨by rfl, fun W _ => by go_simp⟩) hS ?_
  refine AnyE.one (i := 3) (by kernel_rfl) rfl (by rfl) (fun K hK => ?_)
  go_simp
  refine (termOf_any (t := (.mk 25 sf nf pf ks)) HU0.out 0).mono ?_
  rintro e W1 ⟨rfl, hb⟩
  have HI1 := Lib.hid (HI.out.stays hb)
  have HF1 := Lib.hid (HF.out.stays hb)
  have HU1 := Lib.hid (HU0.out.below hb)
  have HR1 := Lib.hid (HR0.out.stays hb)
  have HB1 := Lib.hid (HB0.out.trans (hb.mono HB0.out.size))
  clear hb
  unfold TmV
  refine hK.out _ _ (fun _ => HF1.out) ?_
  clear hK K
  refine AnyE.one (i := 5) (by kernel_rfl) rfl (by rfl) (fun K hK => ?_)
  have hcx : W1.cell? ⟨w1.heap.size + 1, 0, none⟩ = some (.int .i64 0) := HI1.out.cell 0
  have hfx := HI1.out.frozen 0
  go_simp
  clear hcx hfx
  have HI2 := Lib.hid (show Blk _ _ (insCells (⟨5, t.place, t.text, e0, tm0, tm0, [], 0, false⟩ : Ins) (.slice none 0 0)) 43 from HI1.out.setSame 0 (.int .i64 5))
  have HF2 := Lib.hid (HF1.out.setOther ⟨w1.heap.size + 1, 0, none⟩ (.int .i64 5) (by show w1.heap.size ≠ w1.heap.size + 1; omega))
  have HU2 := Lib.hid (HU1.out.keep (S' := fun b => b < w.heap.size) (w' := W1.setCell ⟨w1.heap.size + 1, 0, none⟩ (.int .i64 5)) fun b hb hl => ⟨hb, Below.heap_setCell _ _ _ _ (by show b ≠ w1.heap.size + 1; omega)⟩)
  have HR2 := Lib.hid (HR1.out.setOther ⟨w1.heap.size + 1, 0, none⟩ (.int .i64 5) (by show w.heap.size + 1 ≠ w1.heap.size + 1; omega))
  have HB2 := Lib.hid (HB1.out.setCell (p := ⟨w1.heap.size + 1, 0, none⟩) (by show w.heap.size ≤ w1.heap.size + 1; omega) (.int .i64 5))
  generalize W1.setCell ⟨w1.heap.size + 1, 0, none⟩ (.int .i64 5) = W2 at HI2 HF2 HU2 HR2 HB2 ⊢
  refine hK.out _ _ (fun _ => HF2.out) ?_
  clear hK K
  refine AnyE.one (i := 6) (by kernel_rfl) rfl (by rfl) (fun K hK => ?_)
  go_simp
  refine hK.out _ _ (fun _ => HF2.out) ?_
  clear hK K
  refine AnyE.one (i := 7) (by kernel_rfl) rfl (by rfl) (fun K hK => ?_)
  have hcx : W2.cell? ⟨w1.heap.size + 1, 3, none⟩ = some (.string ⟨#[]⟩) := HI2.out.cell 3
  have hfx := HI2.out.frozen 3
  go_simp
  clear hcx hfx
  have HI3 := Lib.hid (show Blk _ _ (insCells (⟨5, t.place, t.text, sf, tm0, tm0, [], 0, false⟩ : Ins) (.slice none 0 0)) 43 from HI2.out.setSame 3 (.string sf))
  have HF3 := Lib.hid (HF2.out.setOther ⟨w1.heap.size + 1, 3, none⟩ (.string sf) (by show w1.heap.size ≠ w1.heap.size + 1; omega))
  have HU3 := Lib.hid (HU2.out.keep (S' := fun b => b < w.heap.size) (w' := W2.setCell ⟨w1.heap.size + 1, 3, none⟩ (.string sf)) fun b hb hl => ⟨hb, Below.heap_setCell _ _ _ _ (by show b ≠ w1.heap.size + 1; omega)⟩)
  have HR3 := Lib.hid (HR2.out.setOther ⟨w1.heap.size + 1, 3, none⟩ (.string sf) (by show w.heap.size + 1 ≠ w1.heap.size + 1; omega))
  have HB3 := Lib.hid (HB2.out.setCell (p := ⟨w1.heap.size + 1, 3, none⟩) (by show w.heap.size ≤ w1.heap.size + 1; omega) (.string sf))
  generalize W2.setCell ⟨w1.heap.size + 1, 3, none⟩ (.string sf) = W3 at HI3 HF3 HU3 HR3 HB3 ⊢
  refine hK.out _ _ (fun _ => HF3.out) ?_
  clear hK K
  refine AnyE.one (i := 8) (by kernel_rfl) rfl (by rfl) (fun K hK => ?_)
  go_simp
  refine hK.out _ _ (fun _ => HF3.out) ?_
  clear hK K
  refine AnyE.one (i := 9) (by kernel_rfl) rfl (by rfl) (fun K hK => ?_)
  refine wp_store_mid 40 (.tmp 66) (.tmp 63) rfl (w1.heap.size + 1) 4 #[.string (tmOf (kidP (.mk 25 sf nf pf ks) 0)).name, .int .i64 (tmOf (kidP (.mk 25 sf nf pf ks) 0)).num] rfl rfl (HI3.out.thereN 4 2 (show 4 + 2 ≤ 11 by omega)) Tryd.sizeTerm (all_oneCell_toArray (tmCells_one (tmOf (kidP (.mk 25 sf nf pf ks) 0)))) ?_
  have HI4 := Lib.hid (show Blk (W3.setCells (w1.heap.size + 1) 4 [.string (tmOf (kidP (.mk 25 sf nf pf ks) 0)).name, .int .i64 (tmOf (kidP (.mk 25 sf nf pf ks) 0)).num]) _ (insCells (⟨5, t.place, t.text, sf, tmOf (kidP (.mk 25 sf nf pf ks) 0), tm0, [], 0, false⟩ : Ins) (.slice none 0 0)) 43 from HI3.out.setCells2 4 _ _)
  have HF4 := Lib.hid (show Blk (W3.setCells (w1.heap.size + 1) 4 [.string (tmOf (kidP (.mk 25 sf nf pf ks) 0)).name, .int .i64 (tmOf (kidP (.mk 25 sf nf pf ks) 0)).num]) _ _ _ from HF3.out.other2 (by omega) 4 _ _)
  have HR4 := Lib.hid (show Blk (W3.setCells (w1.heap.size + 1) 4 [.string (tmOf (kidP (.mk 25 sf nf pf ks) 0)).name, .int .i64 (tmOf (kidP (.mk 25 sf nf pf ks) 0)).num]) _ _ _ from HR3.out.other2 (by omega) 4 _ _)
  have HB4 := Lib.hid (show Below _ _ (W3.setCells (w1.heap.size + 1) 4 [.string (tmOf (kidP (.mk 25 sf nf pf ks) 0)).name, .int .i64 (tmOf (kidP (.mk 25 sf nf pf ks) 0)).num]) from Below.cells2 HB3.out (by omega) 4 _ _)
  refine hK.out _ _ (fun h => absurd rfl h) ?_
  clear hK K
  refine AnyE.done (by kernel_rfl) ?_ _
  go_wp2_with (first
    | ((with_reducible refine at_ld 43 (.tmp 4) ?_); refine wpList_load_blk rfl 43 (.tmp 4) rfl (w1.heap.size + 1) (insCells (⟨5, t.place, t.text, sf, tmOf (kidP (.mk 25 sf nf pf ks) 0), tm0, [], 0, false⟩ : Ins) (.slice none 0 0)) rfl HI4.out Tryd.underlying43 rfl Tryd.sizeInstr ?_)
    | ((with_reducible refine at_st 43 (.tmp 2) ?_); refine wpList_store_blk rfl 43 (.tmp 2) (.tmp 76) rfl (w.heap.size + 1) (insCells (⟨5, t.place, t.text, sf, tmOf (kidP (.mk 25 sf nf pf ks) 0), tm0, [], 0, false⟩ : Ins) (.slice none 0 0)) rfl rfl HR4.out Tryd.sizeInstr rfl (insCells_one _ _ rfl) ?_))

  exact ret_blk (cs := (insCells (⟨5, t.place, t.text, sf, tmOf (kidP (.mk 25 sf nf pf ks) 0), tm0, [], 0, false⟩ : Ins) (.slice none 0 0))) Tryd.results81 rfl HR4.out Tryd.underlying43 rfl Tryd.sizeInstr rfl ⟨_, rfl, ArgsAt.nil _ _, Below.row HB4.out (by omega) _⟩

set_option maxRecDepth 100000 in
set_option maxHeartbeats 2000000 in
theorem set_26 {w : World} {t : T} {S : Nat → Prop} {kv : Value} (hk : KAt 25 w t.kids S kv) {sf : ByteArray} {nf : Int} {pf : Nat} {ks : List T} (hf : kidP t 0 = .mk 26 sf nf pf ks) :
    Calls Tryd.prog 81 #[NodeV t kv] w (InsPost w (setI t)) := by
  have hs : setI t = ⟨0, t.place, t.text, e0, ⟨sf, 0⟩, tm0, [], 0, false⟩ := by unfold setI; rw [hf]; rfl
  rw [hs]
  clear hs
  have HB := Lib.hid (show Below w.heap.size w ((w.alloc (.cells (nodeCells t kv).toArray 25)).alloc (.cells (insCells ins0 (.slice none 0 0)).toArray 43)) from (((Below.refl _ _).alloc (Nat.le_refl _) _).alloc (by simp) _))
  have HN := Lib.hid (show Blk ((w.alloc (.cells (nodeCells t kv).toArray 25)).alloc (.cells (insCells ins0 (.slice none 0 0)).toArray 43)) w.heap.size (nodeCells t kv) 25 from ((Blk.new w (nodeCells t kv) 25).alloc _))
  have HRes := Lib.hid (Blk.new2 w (.cells (nodeCells t kv).toArray 25) (insCells ins0 (.slice none 0 0)) 43)
  have hko := kidOf_any (((hk.mono (S' := fun b => b < w.heap.size) fun b _ hl => hl).alloc (.cells (nodeCells t kv).toArray 25)).alloc (.cells (insCells ins0 (.slice none 0 0)).toArray 43)) 0
  rw [hf] at hko
  have HKO := Lib.hid hko
  clear hk hko hf
  unfold NodeV
  go_enter Tryd.func81, Tryd.ntmps81
  go_wp2_with fail
  refine HKO.out.mono ?_
  rintro e w1 ⟨u, rfl, hu, hb⟩
  clear HKO
  have hn1 := HN.out.stays hb
  have hr1 := HRes.out.stays hb
  have hc1 := hn1.cell 1
  have hc3 := hn1.cell 3
  simp only [nodeCells, List.getElem?_cons_zero, List.getElem?_cons_succ] at hc1 hc3
  have hl1 := hr1.lt
  have hl0 := hn1.lt
  have hne0 : w.heap.size ≠ w1.heap.size := by omega
  have hne1 : w.heap.size + 1 ≠ w1.heap.size := by omega
  obtain ⟨ua, un, uc, rfl⟩ := hu.slice
  have HB1 := Lib.hid (HB.out.trans (hb.mono HB.out.size))
  have HR := Lib.hid hr1
  have HU := Lib.hid hu
  clear hn1 hr1 hb HB HN HRes hu
  unfold NodeV
  simp only [kind_mk, text_mk, num_mk, place_mk]
  go_wp2_with (first
    | ((with_reducible refine at_st 43 (.tmp 2) ?_); refine wpList_store_blk rfl 43 (.tmp 2) (.tmp 76) rfl (w.heap.size + 1) (insCells (⟨0, t.place, t.text, e0, ⟨sf, 0⟩, tm0, [], 0, false⟩ : Ins) (.slice none 0 0)) rfl rfl ((HR.out.alloc _).alloc _) Tryd.sizeInstr rfl (insCells_one _ _ rfl) ?_))
  exact ret_blk (cs := (insCells (⟨0, t.place, t.text, e0, ⟨sf, 0⟩, tm0, [], 0, false⟩ : Ins) (.slice none 0 0))) Tryd.results81 rfl ((HR.out.alloc _).alloc _) Tryd.underlying43 rfl Tryd.sizeInstr rfl ⟨_, rfl, ArgsAt.nil _ _, Below.row ((HB1.out.alloc (by omega) _).alloc (by simp; omega) _) (by omega) _⟩

set_option maxRecDepth 100000 in
set_option maxHeartbeats 2000000 in
theorem set_27 {w : World} {t : T} {S : Nat → Prop} {kv : Value} (hk : KAt 25 w t.kids S kv) {sf : ByteArray} {nf : Int} {pf : Nat} {ks : List T} (hf : kidP t 0 = .mk 27 sf nf pf ks) :
    Calls Tryd.prog 81 #[NodeV t kv] w (InsPost w (setI t)) := by
  have hs : setI t = ⟨0, t.place, t.text, e0, ⟨sf, 0⟩, tm0, [], 0, false⟩ := by unfold setI; rw [hf]; rfl
  rw [hs]
  clear hs
  have HB := Lib.hid (show Below w.heap.size w ((w.alloc (.cells (nodeCells t kv).toArray 25)).alloc (.cells (insCells ins0 (.slice none 0 0)).toArray 43)) from (((Below.refl _ _).alloc (Nat.le_refl _) _).alloc (by simp) _))
  have HN := Lib.hid (show Blk ((w.alloc (.cells (nodeCells t kv).toArray 25)).alloc (.cells (insCells ins0 (.slice none 0 0)).toArray 43)) w.heap.size (nodeCells t kv) 25 from ((Blk.new w (nodeCells t kv) 25).alloc _))
  have HRes := Lib.hid (Blk.new2 w (.cells (nodeCells t kv).toArray 25) (insCells ins0 (.slice none 0 0)) 43)
  have hko := kidOf_any (((hk.mono (S' := fun b => b < w.heap.size) fun b _ hl => hl).alloc (.cells (nodeCells t kv).toArray 25)).alloc (.cells (insCells ins0 (.slice none 0 0)).toArray 43)) 0
  rw [hf] at hko
  have HKO := Lib.hid hko
  clear hk hko hf
  unfold NodeV
  go_enter Tryd.func81, Tryd.ntmps81
  go_wp2_with fail
  refine HKO.out.mono ?_
  rintro e w1 ⟨u, rfl, hu, hb⟩
  clear HKO
  have hn1 := HN.out.stays hb
  have hr1 := HRes.out.stays hb
  have hc1 := hn1.cell 1
  have hc3 := hn1.cell 3
  simp only [nodeCells, List.getElem?_cons_zero, List.getElem?_cons_succ] at hc1 hc3
  have hl1 := hr1.lt
  have hl0 := hn1.lt
  have hne0 : w.heap.size ≠ w1.heap.size := by omega
  have hne1 : w.heap.size + 1 ≠ w1.heap.size := by omega
  obtain ⟨ua, un, uc, rfl⟩ := hu.slice
  have HB1 := Lib.hid (HB.out.trans (hb.mono HB.out.size))
  have HR := Lib.hid hr1
  have HU := Lib.hid hu
  clear hn1 hr1 hb HB HN HRes hu
  unfold NodeV
  simp only [kind_mk, text_mk, num_mk, place_mk]
  go_wp2_with (first
    | ((with_reducible refine at_st 43 (.tmp 2) ?_); refine wpList_store_blk rfl 43 (.tmp 2) (.tmp 76) rfl (w.heap.size + 1) (insCells (⟨0, t.place, t.text, e0, ⟨sf, 0⟩, tm0, [], 0, false⟩ : Ins) (.slice none 0 0)) rfl rfl ((HR.out.alloc _).alloc _) Tryd.sizeInstr rfl (insCells_one _ _ rfl) ?_))
  exact ret_blk (cs := (insCells (⟨0, t.place, t.text, e0, ⟨sf, 0⟩, tm0, [], 0, false⟩ : Ins) (.slice none 0 0))) Tryd.results81 rfl ((HR.out.alloc _).alloc _) Tryd.underlying43 rfl Tryd.sizeInstr rfl ⟨_, rfl, ArgsAt.nil _ _, Below.row ((HB1.out.alloc (by omega) _).alloc (by simp; omega) _) (by omega) _⟩

set_option maxRecDepth 100000 in
set_option maxHeartbeats 2000000 in
theorem set_28 {w : World} {t : T} {S : Nat → Prop} {kv : Value} (hk : KAt 25 w t.kids S kv) {sf : ByteArray} {nf : Int} {pf : Nat} {ks : List T} (hf : kidP t 0 = .mk 28 sf nf pf ks) (hl : ks.length ≤ 50000) :
    Calls Tryd.prog 81 #[NodeV t kv] w (InsPost w (setI t)) := by
  have hs : setI t = ⟨12, t.place, t.text, sf, tm0, tm0, tmsOf (.mk 28 sf nf pf ks), 0, false⟩ := by unfold setI; rw [hf]; rfl
  rw [hs]
  clear hs
  have HB := Lib.hid (show Below w.heap.size w ((w.alloc (.cells (nodeCells t kv).toArray 25)).alloc (.cells (insCells ins0 (.slice none 0 0)).toArray 43)) from (((Below.refl _ _).alloc (Nat.le_refl _) _).alloc (by simp) _))
  have HN := Lib.hid (show Blk ((w.alloc (.cells (nodeCells t kv).toArray 25)).alloc (.cells (insCells ins0 (.slice none 0 0)).toArray 43)) w.heap.size (nodeCells t kv) 25 from ((Blk.new w (nodeCells t kv) 25).alloc _))
  have HRes := Lib.hid (Blk.new2 w (.cells (nodeCells t kv).toArray 25) (insCells ins0 (.slice none 0 0)) 43)
  have hko := kidOf_any (((hk.mono (S' := fun b => b < w.heap.size) fun b _ hl => hl).alloc (.cells (nodeCells t kv).toArray 25)).alloc (.cells (insCells ins0 (.slice none 0 0)).toArray 43)) 0
  rw [hf] at hko
  have HKO := Lib.hid hko
  clear hk hko hf
  unfold NodeV
  go_enter Tryd.func81, Tryd.ntmps81
  go_wp2_with fail
  refine HKO.out.mono ?_
  rintro e w1 ⟨u, rfl, hu, hb⟩
  clear HKO
  have hn1 := HN.out.stays hb
  have hr1 := HRes.out.stays hb
  have hc1 := hn1.cell 1
  have hc3 := hn1.cell 3
  simp only [nodeCells, List.getElem?_cons_zero, List.getElem?_cons_succ] at hc1 hc3
  have hl1 := hr1.lt
  have hl0 := hn1.lt
  have hne0 : w.heap.size ≠ w1.heap.size := by omega
  have hne1 : w.heap.size + 1 ≠ w1.heap.size := by omega
  obtain ⟨ua, un, uc, rfl⟩ := hu.slice
  have HB1 := Lib.hid (HB.out.trans (hb.mono HB.out.size))
  have HR := Lib.hid hr1
  have HU := Lib.hid hu
  clear hn1 hr1 hb HB HN HRes hu
  unfold NodeV
  simp only [kind_mk, text_mk, num_mk, place_mk]
  go_wp2_with fail
  obtain ⟨W0, hW0, HI, HF, HU0, HR0, HB0⟩ : ∃ W0 : World, ((w1.alloc (.cells (nodeCells (.mk 28 sf nf pf ks) (.slice ua un uc)).toArray 25)).alloc (.cells (insCells (⟨0, t.place, t.text, e0, tm0, tm0, [], 0, false⟩ : Ins) (.slice none 0 0)).toArray 43)).drew = W0 ∧ Hid (Blk W0 (w1.heap.size + 1) (insCells (⟨0, t.place, t.text, e0, tm0, tm0, [], 0, false⟩ : Ins) (.slice none 0 0)) 43) ∧ Hid (Blk W0 w1.heap.size (nodeCells (.mk 28 sf nf pf ks) (.slice ua un uc)) 25) ∧ Hid (KAt 25 W0 ks (fun b => b < w.heap.size) (.slice ua un uc)) ∧ Hid (Blk W0 (w.heap.size + 1) (insCells ins0 (.slice none 0 0)) 43) ∧ Hid (Below w.heap.size w W0) :=
    ⟨_, rfl, Lib.hid (Blk.new2 w1 _ _ _).drew, Lib.hid ((Blk.new w1 _ _).alloc _).drew, Lib.hid ((HU.out.alloc _).alloc _).drew, Lib.hid ((HR.out.alloc _).alloc _).drew, Lib.hid (((HB1.out.alloc (by omega) _).alloc (by simp; omega) _).drew)⟩
  clear HU HR HB1 hc1 hc3
  refine AnyE.begin3 (S := fun W => Blk W w1.heap.size (nodeCells (.mk 28 sf nf pf ks) (.slice ua un uc)) 25) hW0 (by kernel_rfl) HF.out (fun hS => ?_)
  clear hW0
  refine AnyE.take (i := 0) (v := .pointer (some ⟨w1.heap.size, 1, none⟩)) rfl (by kernel_rfl) (by kernel_rfl) (by kernel_rfl) (by kernel_rfl) (fun _ _ _ h => h) (Or.inl ⟨by rfl, fun W _ => by go_simp⟩) hS ?_
  refine AnyE.take (i := 1) (v := .string sf) rfl (by kernel_rfl) (by kernel_rfl) (by kernel_rfl) (by kernel_rfl) (fun _ _ _ h => h) (Or.inl ⟨by rfl, fun W hW => by have hcx : W.cell? ⟨w1.heap.size, 1, none⟩ = some (.string sf) := hW.cell 1; go_simp⟩) hS ?_
  refine AnyE.take (i := 2) (v := .agg #[.int .i64 28, .string sf, .int .i64 nf, .int .i64 pf, .slice ua un uc]) rfl (by kernel_rfl) (by kernel_rfl) (by kernel_rfl) (by kernel_rfl) (fun _ _ _ h => h) (yieldsIf_load_mid (cs := nodeCells (.mk 28 sf nf pf ks) (.slice ua un uc)) (by rfl) 25 (.tmp 3) rfl (w1.heap.size) 0 rfl _ (fun W hW j v hj => by rw [Nat.zero_add, hW.cell j]; exact hj) Tryd.underlying25 rfl Tryd.sizeNode) hS ?_
  refine AnyE.take (i := 4) (v := .pointer (some ⟨w1.heap.size + 1, 0, none⟩)) rfl (by kernel_rfl) (by kernel_rfl) (by kernel_rfl) (by kernel_rfl) (fun _ _ _ h => h) (Or.inl ⟨by rfl, fun W _ => by go_simp⟩) hS ?_
  refine AnyE.one (i := 3) (by kernel_rfl) rfl (by rfl) (fun K hK => ?_)
  go_simp
  refine (termsOf_any (t := (.mk 28 sf nf pf ks)) HU0.out hl).mono ?_
  rintro e W1 ⟨va, rfl, ha, hb⟩
  obtain ⟨aa, an, ac, rfl⟩ := ha.slice
  have hz := HI.out.lt
  have HA1 := Lib.hid (ha.mono (S' := fun b => w1.heap.size + 1 < b) fun b hb _ => by omega)
  clear ha hz
  have HI1 := Lib.hid (HI.out.stays hb)
  have HF1 := Lib.hid (HF.out.stays hb)
  have HU1 := Lib.hid (HU0.out.below hb)
  have HR1 := Lib.hid (HR0.out.stays hb)
  have HB1 := Lib.hid (HB0.out.trans (hb.mono HB0.out.size))
  clear hb
  refine hK.out _ _ (fun _ => HF1.out) ?_
  clear hK K
  refine AnyE.one (i := 5) (by kernel_rfl) rfl (by rfl) (fun K hK => ?_)
  have hcx : W1.cell? ⟨w1.heap.size + 1, 0, none⟩ = some (.int .i64 0) := HI1.out.cell 0
  have hfx := HI1.out.frozen 0
  go_simp
  clear hcx hfx
  have HI2 := Lib.hid (show Blk _ _ (insCells (⟨12, t.place, t.text, e0, tm0, tm0, [], 0, false⟩ : Ins) (.slice none 0 0)) 43 from HI1.out.setSame 0 (.int .i64 12))
  have HF2 := Lib.hid (HF1.out.setOther ⟨w1.heap.size + 1, 0, none⟩ (.int .i64 12) (by show w1.heap.size ≠ w1.heap.size + 1; omega))
  have HU2 := Lib.hid (HU1.out.keep (S' := fun b => b < w.heap.size) (w' := W1.setCell ⟨w1.heap.size + 1, 0, none⟩ (.int .i64 12)) fun b hb hl => ⟨hb, Below.heap_setCell _ _ _ _ (by show b ≠ w1.heap.size + 1; omega)⟩)
  have HR2 := Lib.hid (HR1.out.setOther ⟨w1.heap.size + 1, 0, none⟩ (.int .i64 12) (by show w.heap.size + 1 ≠ w1.heap.size + 1; omega))
  have HB2 := Lib.hid (HB1.out.setCell (p := ⟨w1.heap.size + 1, 0, none⟩) (by show w.heap.size ≤ w1.heap.size + 1; omega) (.int .i64 12))
  have HA2 := Lib.hid (HA1.out.setCell ⟨w1.heap.size + 1, 0, none⟩ (.int .i64 12) (fun b hb => by show b ≠ w1.heap.size + 1; omega))
  generalize W1.setCell ⟨w1.heap.size + 1, 0, none⟩ (.int .i64 12) = W2 at HI2 HF2 HU2 HR2 HB2 HA2 ⊢
  refine hK.out _ _ (fun _ => HF2.out) ?_
  clear hK K
  refine AnyE.one (i := 6) (by kernel_rfl) rfl (by rfl) (fun K hK => ?_)
  go_simp
  refine hK.out _ _ (fun _ => HF2.out) ?_
  clear hK K
  refine AnyE.one (i := 7) (by kernel_rfl) rfl (by rfl) (fun K hK => ?_)
  have hcx : W2.cell? ⟨w1.heap.size + 1, 3, none⟩ = some (.string ⟨#[]⟩) := HI2.out.cell 3
  have hfx := HI2.out.frozen 3
  go_simp
  clear hcx hfx
  have HI3 := Lib.hid (show Blk _ _ (insCells (⟨12, t.place, t.text, sf, tm0, tm0, [], 0, false⟩ : Ins) (.slice none 0 0)) 43 from HI2.out.setSame 3 (.string sf))
  have HF3 := Lib.hid (HF2.out.setOther ⟨w1.heap.size + 1, 3, none⟩ (.string sf) (by show w1.heap.size ≠ w1.heap.size + 1; omega))
  have HU3 := Lib.hid (HU2.out.keep (S' := fun b => b < w.heap.size) (w' := W2.setCell ⟨w1.heap.size + 1, 3, none⟩ (.string sf)) fun b hb hl => ⟨hb, Below.heap_setCell _ _ _ _ (by show b ≠ w1.heap.size + 1; omega)⟩)
  have HR3 := Lib.hid (HR2.out.setOther ⟨w1.heap.size + 1, 3, none⟩ (.string sf) (by show w.heap.size + 1 ≠ w1.heap.size + 1; omega))
  have HB3 := Lib.hid (HB2.out.setCell (p := ⟨w1.heap.size + 1, 3, none⟩) (by show w.heap.size ≤ w1.heap.size + 1; omega) (.string sf))
  have HA3 := Lib.hid (HA2.out.setCell ⟨w1.heap.size + 1, 3, none⟩ (.string sf) (fun b hb => by show b ≠ w1.heap.size + 1; omega))
  generalize W2.setCell ⟨w1.heap.size + 1, 3, none⟩ (.string sf) = W3 at HI3 HF3 HU3 HR3 HB3 HA3 ⊢
  refine hK.out _ _ (fun _ => HF3.out) ?_
  clear hK K
  refine AnyE.one (i := 8) (by kernel_rfl) rfl (by rfl) (fun K hK => ?_)
  go_simp
  refine hK.out _ _ (fun _ => HF3.out) ?_
  clear hK K
  refine AnyE.one (i := 9) (by kernel_rfl) rfl (by rfl) (fun K hK => ?_)
  have hcx : W3.cell? ⟨w1.heap.size + 1, 8, none⟩ = some (.slice none 0 0) := HI3.out.cell 8
  have hfx := HI3.out.frozen 8
  go_simp
  clear hcx hfx
  have HI4 := Lib.hid (show Blk _ _ (insCells (⟨12, t.place, t.text, sf, tm0, tm0, tmsOf (.mk 28 sf nf pf ks), 0, false⟩ : Ins) (.slice aa an ac)) 43 from HI3.out.setSame 8 (.slice aa an ac))
  have HF4 := Lib.hid (HF3.out.setOther ⟨w1.heap.size + 1, 8, none⟩ (.slice aa an ac) (by show w1.heap.size ≠ w1.heap.size + 1; omega))
  have HU4 := Lib.hid (HU3.out.keep (S' := fun b => b < w.heap.size) (w' := W3.setCell ⟨w1.heap.size + 1, 8, none⟩ (.slice aa an ac)) fun b hb hl => ⟨hb, Below.heap_setCell _ _ _ _ (by show b ≠ w1.heap.size + 1; omega)⟩)
  have HR4 := Lib.hid (HR3.out.setOther ⟨w1.heap.size + 1, 8, none⟩ (.slice aa an ac) (by show w.heap.size + 1 ≠ w1.heap.size + 1; omega))
  have HB4 := Lib.hid (HB3.out.setCell (p := ⟨w1.heap.size + 1, 8, none⟩) (by show w.heap.size ≤ w1.heap.size + 1; omega) (.slice aa an ac))
  have HA4 := Lib.hid (HA3.out.setCell ⟨w1.heap.size + 1, 8, none⟩ (.slice aa an ac) (fun b hb => by show b ≠ w1.heap.size + 1; omega))
  generalize W3.setCell ⟨w1.heap.size + 1, 8, none⟩ (.slice aa an ac) = W4 at HI4 HF4 HU4 HR4 HB4 HA4 ⊢
  refine hK.out _ _ (fun h => absurd rfl h) ?_
  clear hK K
  refine AnyE.done (by kernel_rfl) ?_ _
  go_wp2_with (first
    | ((with_reducible refine at_ld 43 (.tmp 4) ?_); refine wpList_load_blk rfl 43 (.tmp 4) rfl (w1.heap.size + 1) (insCells (⟨12, t.place, t.text, sf, tm0, tm0, tmsOf (.mk 28 sf nf pf ks), 0, false⟩ : Ins) (.slice aa an ac)) rfl HI4.out Tryd.underlying43 rfl Tryd.sizeInstr ?_)
    | ((with_reducible refine at_st 43 (.tmp 2) ?_); refine wpList_store_blk rfl 43 (.tmp 2) (.tmp 76) rfl (w.heap.size + 1) (insCells (⟨12, t.place, t.text, sf, tm0, tm0, tmsOf (.mk 28 sf nf pf ks), 0, false⟩ : Ins) (.slice aa an ac)) rfl rfl HR4.out Tryd.sizeInstr rfl (insCells_one _ _ rfl) ?_))

  exact ret_blk (cs := (insCells (⟨12, t.place, t.text, sf, tm0, tm0, tmsOf (.mk 28 sf nf pf ks), 0, false⟩ : Ins) (.slice aa an ac))) Tryd.results81 rfl HR4.out Tryd.underlying43 rfl Tryd.sizeInstr rfl ⟨_, rfl, ((HA4.out.setRow _ _ (fun b hb => by omega)).mono (fun b hb _ => by omega)), Below.row HB4.out (by omega) _⟩

theorem set_any {w : World} {t : T} {S : Nat → Prop} {kv : Value} (hk : KAt 25 w t.kids S kv) (hx : isExprK (kidP t 0).kind) (hl : (kidP t 0).kids.length ≤ 50000) :
    Calls Tryd.prog 81 #[NodeV t kv] w (InsPost w (setI t)) := by
  cases hf : kidP t 0 with
  | mk k s n p ks =>
    rw [hf] at hx hl
    have h : k = 5 ∨ k = 21 ∨ k = 22 ∨ k = 23 ∨ k = 24 ∨ k = 25 ∨ k = 26 ∨ k = 27 ∨ k = 28 := by unfold isExprK at hx; rw [kind_mk] at hx; omega
    rcases h with rfl | rfl | rfl | rfl | rfl | rfl | rfl | rfl | rfl
    · exact set_5 hk hf
    · exact set_21 hk hf
    · exact set_22 hk hf
    · exact set_23 hk hf
    · exact set_24 hk hf
    · exact set_25 hk hf
    · exact set_26 hk hf
    · exact set_27 hk hf
    · exact set_28 hk hf hl

end Go.Proofs.YtnmpfpnldcgbaaaDoor
