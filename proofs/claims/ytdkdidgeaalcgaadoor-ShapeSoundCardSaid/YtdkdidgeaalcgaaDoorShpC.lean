/- The contracts of shape's number, variable and sizeOf. -/
import Derived.Test.YtdkdidgeaalcgaaDoorShpB
import Derived.Deep.DeepCutAuto
namespace Go.Proofs.YtdkdidgeaalcgaaDoor
open Go.RowKit

/- A Type's parts as a value. -/
def ptCells (p : Pt) (sv fv cv : Value) : List Value := [.int .i64 p.sort.kind, .string p.sort.text, .int .i64 p.sort.num, .int .i64 p.sort.place, sv, fv, cv]
def PtV (p : Pt) (sv fv cv : Value) : Value := .agg #[.int .i64 p.sort.kind, .string p.sort.text, .int .i64 p.sort.num, .int .i64 p.sort.place, sv, fv, cv]
structure PtAt (w : World) (p : Pt) (sv fv cv : Value) : Prop where
  s : KAt 39 w p.sort.kids (fun _ => True) sv
  f : NsV w p.fields fv
  c : NsV w p.facts cv
theorem PtAt.below {w w' : World} {p : Pt} {sv fv cv : Value} (h : PtAt w p sv fv cv) (hb : Below w.heap.size w w') : PtAt w' p sv fv cv := ⟨h.s.below hb, h.f.below hb, h.c.below hb⟩

theorem numF_none {fs : List T} {s : ByteArray} (h : fndT fs s = none) : numF fs s = none := by unfold numF; rw [h]
theorem numF_some {fs : List T} {s : ByteArray} {k : Nat} {t : T} (h : fndT fs s = some k) (ht : fs[k]? = some t) : numF fs s = bif t.kids.isEmpty then some k else none := by
  unfold numF
  rw [h]
  simp [List.getD, ht]

set_option maxRecDepth 100000 in
set_option maxHeartbeats 1000000 in
theorem snum_any {w : World} {p : Pt} {sv fv cv : Value} (h : NsV w p.fields fv) (s : ByteArray) :
    Calls Tryd.prog 52 #[PtV p sv fv cv, .string s] w (FndPost w (numF p.fields s)) := by
  obtain ⟨A, cap, rfl, hcap, hcm, hns⟩ := h
  have HB0 := Lib.hid ((Below.refl w.heap.size w).alloc (Nat.le_refl _) (.cells (ptCells p sv (.slice A p.fields.length cap) cv).toArray 93))
  have HBk := Lib.hid (Blk.new w (ptCells p sv (.slice A p.fields.length cap) cv) 93)
  have HF := Lib.hid (hns.below HB0.out)
  clear hns
  unfold PtV
  unfold ptCells at HB0 HF HBk
  obtain ⟨⟨sk, st, sn, sp, sks⟩, fs, cs⟩ := p
  simp only [T.kind, T.text, T.num, T.place] at *
  go_enter Tryd.func52, Tryd.ntmps52
  go_wp2_with fail
  refine (find_any s A cap fs _ HF.out (by omega)).mono ?_
  rintro e w1 ⟨rfl, hb⟩
  have HB1 := Lib.hid (HB0.out.trans (hb.mono (by simp)))
  have HBk1 := Lib.hid (HBk.out.stays hb)
  have HF1 := Lib.hid (HF.out.below hb)
  clear hb
  have c5 : w1.cell? ⟨w.heap.size, 5, none⟩ = some (.slice A fs.length cap) := HBk1.out.cell 5
  cases hf : fndT fs s with
  | none =>
    have HN := Lib.hid (numF_none hf)
    simp only [oi]
    go_wp2
    go_ret
    rw [HN.out]
    exact ⟨rfl, HB1.out⟩
  | some k =>
    have hk := fndF_lt hf
    obtain ⟨b, rfl, hbl, hc⟩ := HF1.out (by omega)
    obtain ⟨t, ht⟩ : ∃ t, fs[k]? = some t := ⟨_, List.getElem?_eq_getElem hk⟩
    obtain ⟨u, hr, hu⟩ := hc k t ht
    have HN := Lib.hid (numF_some hf ht)
    have HU := Lib.hid hu
    have n0 : w1.cell? ⟨b, k * 5, none⟩ = some (.int .i64 t.kind) := hr 0 _ rfl
    have n1 : w1.cell? ⟨b, k * 5 + 1, none⟩ = some (.string t.text) := hr 1 _ rfl
    have n2 : w1.cell? ⟨b, k * 5 + 2, none⟩ = some (.int .i64 t.num) := hr 2 _ rfl
    have n3 : w1.cell? ⟨b, k * 5 + 3, none⟩ = some (.int .i64 t.place) := hr 3 _ rfl
    have n4 : w1.cell? ⟨b, k * 5 + 4, none⟩ = some u := hr 4 _ rfl
    have hne : ((k : Int) == -1) = false := by simp
    have hk1 : (k : Int) < (fs.length : Int) := by omega
    clear hc hr hu ht hf
    simp only [oi]
    go_wp2_with fail
    refine (isArray_any HU.out).mono ?_
    rintro e w2 ⟨rfl, hb⟩
    have HB2 := Lib.hid (HB1.out.trans (hb.mono HB1.out.size))
    clear hb
    cases ho : t.kids.isEmpty
    · rw [ho] at HN
      go_wp2
      go_ret
      rw [HN.out]
      exact ⟨rfl, HB2.out⟩
    · rw [ho] at HN
      go_wp2
      go_ret
      rw [HN.out]
      exact ⟨rfl, HB2.out⟩

theorem varP_empty {fs : List T} {srt of : Int} {t : T} (h : (t.text.toList == []) = true) : varP fs srt of t = some 0 := by unfold varP; rw [h]; rfl
theorem varP_none {fs : List T} {srt of : Int} {t : T} (h : (t.text.toList == []) = false) (hn : numF fs t.text = none) : varP fs srt of t = none := by unfold varP; rw [h, hn]; rfl
theorem varP_some {fs : List T} {srt of : Int} {t : T} {k : Nat} (h : (t.text.toList == []) = false) (hn : numF fs t.text = some k) : varP fs srt of t = bif keptB srt of k then none else some (k + 1) := by unfold varP; rw [h, hn]; rfl

set_option maxRecDepth 100000 in
set_option maxHeartbeats 1000000 in
theorem variable_any {w : World} {p : Pt} {sv fv cv : Value} (h : NsV w p.fields fv) (t : T) (kv : Value) (ty : Ty) (pv lv : Value) :
    Calls Tryd.prog 53 #[PtV p sv fv cv, NodeV t kv, TyV ty pv lv] w (FndPost w (varP p.fields ty.sort ty.of t)) := by
  have HF := Lib.hid h
  obtain ⟨A, cap, rfl, hcap, hcm, _⟩ := h
  obtain ⟨W0, hW0⟩ : ∃ W, ((w.alloc (.cells (ptCells p sv (.slice A p.fields.length cap) cv).toArray 93)).alloc (.cells (nodeCells t kv).toArray 39)).alloc (.cells (tyCells ty pv lv).toArray 50) = W := ⟨_, rfl⟩
  have HB0 := Lib.hid (show Below w.heap.size w W0 from hW0 ▸ ((((Below.refl _ _).alloc (Nat.le_refl _) _).alloc (by simp) _).alloc (by simp; omega) _))
  have b1 := show Blk W0 w.heap.size (ptCells p sv (.slice A p.fields.length cap) cv) 93 from hW0 ▸ (((Blk.new w _ _).alloc _).alloc _)
  have b2 := show Blk W0 (w.heap.size + 1) (nodeCells t kv) 39 from hW0 ▸ ((Blk.new2 w _ _ _).alloc _)
  have b3 := show Blk W0 (w.heap.size + 1 + 1) (tyCells ty pv lv) 50 from hW0 ▸ (by simpa using Blk.new ((w.alloc (.cells (ptCells p sv (.slice A p.fields.length cap) cv).toArray 93)).alloc (.cells (nodeCells t kv).toArray 39)) (tyCells ty pv lv) 50)
  have HB3 := Lib.hid b3
  unfold ptCells nodeCells tyCells at hW0
  obtain ⟨tk, tt, tn, tp, tks⟩ := t
  obtain ⟨⟨sk, st, sn, sp, sks⟩, fs, cs⟩ := p
  obtain ⟨nm, srt, of, fl, fc⟩ := ty
  simp only [T.kind, T.text, T.num, T.place] at hW0 ⊢
  have c0 : W0.cell? ⟨w.heap.size, 0, none⟩ = some (.int .i64 sk) := b1.cell 0
  have c1 : W0.cell? ⟨w.heap.size, 1, none⟩ = some (.string st) := b1.cell 1
  have c2 : W0.cell? ⟨w.heap.size, 2, none⟩ = some (.int .i64 sn) := b1.cell 2
  have c3 : W0.cell? ⟨w.heap.size, 3, none⟩ = some (.int .i64 sp) := b1.cell 3
  have c4 : W0.cell? ⟨w.heap.size, 4, none⟩ = some sv := b1.cell 4
  have c5 : W0.cell? ⟨w.heap.size, 5, none⟩ = some (.slice A fs.length cap) := b1.cell 5
  have c6 : W0.cell? ⟨w.heap.size, 6, none⟩ = some cv := b1.cell 6
  have d1 : W0.cell? ⟨w.heap.size + 1, 1, none⟩ = some (.string tt) := b2.cell 1
  clear b1 b2 b3
  unfold PtV NodeV TyV
  simp only [T.kind, T.text, T.num, T.place] at *
  cases he : tt.toList == []
  · have he2 : tt.toList.isEmpty = false := by cases hx : tt.toList <;> simp_all
    have HN := Lib.hid (snum_any (p := ⟨.mk sk st sn sp sks, fs, cs⟩) (sv := sv) (cv := cv) (HF.out.below HB0.out) tt)
    unfold PtV at HN
    simp only [T.kind, T.text, T.num, T.place] at HN
    go_enter Tryd.func53, Tryd.ntmps53
    go_upto_region 1 with fail
    try rw [hW0]
    clear hW0
    go_wp2_with fail
    refine HN.out.mono ?_
    rintro e w1 ⟨rfl, hb⟩
    have HB1 := Lib.hid (HB0.out.trans (hb.mono HB0.out.size))
    have b4 := HB3.out.stays hb
    have e0 : w1.cell? ⟨w.heap.size + 1 + 1, 0, none⟩ = some (.string nm) := b4.cell 0
    have e1 : w1.cell? ⟨w.heap.size + 1 + 1, 1, none⟩ = some (.int .i64 srt) := b4.cell 1
    have e2 : w1.cell? ⟨w.heap.size + 1 + 1, 2, none⟩ = some (.int .i64 of) := b4.cell 2
    have e3 : w1.cell? ⟨w.heap.size + 1 + 1, 3, none⟩ = some pv := b4.cell 3
    have e4 : w1.cell? ⟨w.heap.size + 1 + 1, 4, none⟩ = some lv := b4.cell 4
    clear hb b4 c0 c1 c2 c3 c4 c5 c6 d1
    cases hn : numF fs tt with
    | none =>
      have HV := Lib.hid (varP_none (t := .mk tk tt tn tp tks) (srt := srt) (of := of) he hn)
      simp only [oi]
      go_wp2
      go_ret
      rw [HV.out]
      exact ⟨rfl, HB1.out⟩
    | some k =>
      have hk := numF_lt hn
      have HV := Lib.hid (varP_some (t := .mk tk tt tn tp tks) (srt := srt) (of := of) he hn)
      have hne : ((k : Int) == -1) = false := by simp
      have hkk : wrap64 ((k : Int) + 1) = ((k + 1 : Nat) : Int) := by rw [wrap64_in (by omega) (by omega)]; rfl
      have HK := Lib.hid (isKept_any ⟨nm, srt, of, fl, fc⟩ pv lv k w1)
      unfold TyV at HK
      simp only [oi]
      go_wp2_with fail
      refine HK.out.mono ?_
      rintro e w2 ⟨rfl, hb⟩
      have HB2 := Lib.hid (HB1.out.trans (hb.mono HB1.out.size))
      clear hb HK
      simp only
      cases hkb : keptB srt of k
      · rw [hkb] at HV
        go_wp2
        go_ret
        rw [HV.out]
        exact ⟨rfl, HB2.out⟩
      · rw [hkb] at HV
        go_wp2
        go_ret
        rw [HV.out]
        exact ⟨rfl, HB2.out⟩
  · have he2 : tt.toList.isEmpty = true := by cases hx : tt.toList <;> simp_all
    have HV := Lib.hid (varP_empty (fs := fs) (srt := srt) (of := of) (t := .mk tk tt tn tp tks) he)
    go_enter Tryd.func53, Tryd.ntmps53
    go_upto_region 1 with fail
    try rw [hW0]
    clear hW0
    go_wp2_with fail
    go_ret
    rw [HV.out]
    exact ⟨rfl, HB0.out⟩

/- What a call comes to that may leave by a fault. -/
def EPost {α : Type} (V : World → Nat → α → Value → Prop) (w : World) (r : E α) (e : Ending) (w' : World) : Prop :=
  match r with
  | .ok a => ∃ v, e = .returned v ∧ V w' w.heap.size a v ∧ Below w.heap.size w w'
  | .error (p, c) => e = .panicked [{ v := sfV p c, recovered := false }] ∧ Below w.heap.size w w'
def VInt (_ : World) (_ : Nat) (n : Int) (v : Value) : Prop := v = .int .i64 n
theorem EPost.err {α : Type} {V : World → Nat → α → Value → Prop} {w w' : World} {r : E α} {p : Nat} {c : Int} (hr : r = .error (p, c)) (h : Below w.heap.size w w') : EPost V w r (.panicked [{ v := sfV p c, recovered := false }]) w' := by
  rw [hr]; exact ⟨rfl, h⟩
theorem EPost.ok {α : Type} {V : World → Nat → α → Value → Prop} {w w' : World} {r : E α} {a : α} {v : Value} (hr : r = .ok a) (hv : V w' w.heap.size a v) (h : Below w.heap.size w w') : EPost V w r (.returned v) w' := by
  rw [hr]; exact ⟨v, rfl, hv, h⟩

set_option maxRecDepth 100000 in
theorem fldNode1 (a b c d e : Value) (w : World) : (Instr.field 39 (.agg #[a, b, c, d, e]) 1).run Tryd.prog w = .ok b w := run_field_agg Tryd.underlying39 rfl (notAgg Tryd.underlying9 rfl) rfl w

set_option maxRecDepth 100000 in
set_option maxHeartbeats 1000000 in
theorem sizeOf_any {w : World} {p : Pt} {sv fv cv : Value} (h : NsV w p.fields fv) {t : T} {S : Nat → Prop} {kv : Value} (hk : KAt 39 w t.kids S kv) (srt : Int) :
    Calls Tryd.prog 50 #[PtV p sv fv cv, NodeV t kv, .int .i64 srt] w (EPost VInt w (sizeP p.fields srt t)) := by
  have HF := Lib.hid h
  have HK := Lib.hid hk
  obtain ⟨A, cap, rfl, hcap, hcm, _⟩ := h
  obtain ⟨W0, hW0⟩ : ∃ W, (w.alloc (.cells (ptCells p sv (.slice A p.fields.length cap) cv).toArray 93)).alloc (.cells (nodeCells t kv).toArray 39) = W := ⟨_, rfl⟩
  have HB0 := Lib.hid (show Below w.heap.size w W0 from hW0 ▸ (((Below.refl _ _).alloc (Nat.le_refl _) _).alloc (by simp) _))
  have b1 := Lib.hid (show Blk W0 w.heap.size (ptCells p sv (.slice A p.fields.length cap) cv) 93 from hW0 ▸ ((Blk.new w _ _).alloc _))
  have b2 := Lib.hid (show Blk W0 (w.heap.size + 1) (nodeCells t kv) 39 from hW0 ▸ (Blk.new2 w _ _ _))
  have HSZ := Lib.hid (show sizeP p.fields srt t = bif srt != 0 || (numF p.fields (kidN t 0).text).isNone then .error (t.place, 32) else .ok (oi (numF p.fields (kidN t 0).text)) from rfl)
  unfold ptCells nodeCells at hW0
  unfold PtV NodeV
  go_enter Tryd.func50, Tryd.ntmps50
  go_upto_region 1 with fail
  try rw [hW0]
  clear hW0
  refine wp_region_held_drew (S := fun W => Blk W w.heap.size (ptCells p sv (.slice A p.fields.length cap) cv) 93 ∧ Blk W (w.heap.size + 1) (nodeCells t kv) 39) (by kernel_rfl) ⟨b1.out, b2.out⟩ (fun hS => ?_)
  refine wpAnyH_take (i := 0) (oi := ⟨some 8, _, _, _, _, _⟩) (v := .agg (ptCells p sv (.slice A p.fields.length cap) cv).toArray) rfl (by kernel_rfl) (by kernel_rfl) (by kernel_rfl) (fun _ _ _ h => h) (yieldsIf_load_mid (cs := ptCells p sv (.slice A p.fields.length cap) cv) (by rfl) 93 (.tmp 3) rfl w.heap.size 0 (by go_simp) _ (fun W hW j v hj => by rw [Nat.zero_add, hW.1.cell j]; exact hj) Tryd.underlying93 rfl Tryd.sizeParts) hS ?_
  try simp only [Act.put, List.setIfInBounds_toArray, List.set_cons_zero, List.set_cons_succ]
  refine wpAnyH_take (i := 1) (oi := ⟨some 9, _, _, _, _, _⟩) (v := .agg (nodeCells t kv).toArray) rfl (by kernel_rfl) (by kernel_rfl) (by kernel_rfl) (fun _ _ _ h => h) (yieldsIf_load_mid (cs := nodeCells t kv) (by rfl) 39 (.tmp 4) rfl (w.heap.size + 1) 0 (by go_simp) _ (fun W hW j v hj => by rw [Nat.zero_add, hW.2.cell j]; exact hj) Tryd.underlying39 rfl Tryd.sizeNode) hS ?_
  try simp only [Act.put, List.setIfInBounds_toArray, List.set_cons_zero, List.set_cons_succ]
  refine AnyH.only (i := 2) (o := ⟨some 10, _, _, _, _, _⟩) (by kernel_rfl) rfl (by rfl) (fun K hK => ?_)
  go_simp
  refine (kidOf_any (t := t) (kv := kv) (HK.out.below HB0.out.drew) 0).mono ?_
  rintro e w1 ⟨u, rfl, _, hb⟩
  have HB1 := Lib.hid (HB0.out.drew.trans (hb.mono HB0.out.drew.size))
  have hS1 : Blk w1 w.heap.size (ptCells p sv (.slice A p.fields.length cap) cv) 93 ∧ Blk w1 (w.heap.size + 1) (nodeCells t kv) 39 := ⟨b1.out.drew.stays hb, b2.out.drew.stays hb⟩
  clear hb
  unfold NodeV
  refine hK.out _ _ hS1 ?_
  clear hK K hS
  try simp only [Act.put, List.setIfInBounds_toArray, List.set_cons_zero, List.set_cons_succ]
  refine wpAnyH_take (i := 3) (oi := ⟨some 11, _, _, _, _, _⟩) (v := .string (kidN t 0).text) rfl (by kernel_rfl) (by kernel_rfl) (by kernel_rfl) (fun _ _ _ h => h) (Or.inl ⟨by rfl, fun W _ => by have hf := fldNode1; go_simp⟩) hS1 ?_
  try simp only [Act.put, List.setIfInBounds_toArray, List.set_cons_zero, List.set_cons_succ]
  refine AnyH.only (i := 4) (o := ⟨some 12, _, _, _, _, _⟩) (by kernel_rfl) rfl (by rfl) (fun K hK => ?_)
  go_simp
  refine (snum_any (p := p) (sv := sv) (cv := cv) (HF.out.below HB1.out) (kidN t 0).text).mono ?_
  rintro e w2 ⟨rfl, hb⟩
  have HB2 := Lib.hid (HB1.out.trans (hb.mono HB1.out.size))
  have hS2 : Blk w2 w.heap.size (ptCells p sv (.slice A p.fields.length cap) cv) 93 ∧ Blk w2 (w.heap.size + 1) (nodeCells t kv) 39 := ⟨hS1.1.stays hb, hS1.2.stays hb⟩
  clear hb
  refine hK.out _ _ hS2 ?_
  clear hK K hS1
  try simp only [Act.put, List.setIfInBounds_toArray, List.set_cons_zero, List.set_cons_succ]
  refine wpAnyH_take (i := 5) (oi := ⟨some 7, _, _, _, _, _⟩) (v := .int .i64 (oi (numF p.fields (kidN t 0).text))) rfl (by kernel_rfl) (by kernel_rfl) (by kernel_rfl) (fun _ _ _ h => h) (Or.inl ⟨by rfl, fun W _ => by go_simp⟩) hS2 ?_
  try simp only [Act.put, List.setIfInBounds_toArray, List.set_cons_zero, List.set_cons_succ]
  refine wpAnyH_done (by kernel_rfl) ?_ _
  have HB3 := Lib.hid hS2.2
  have d0 : w2.cell? ⟨w.heap.size + 1, 0, none⟩ = some (.int .i64 t.kind) := hS2.2.cell 0
  have d1 : w2.cell? ⟨w.heap.size + 1, 1, none⟩ = some (.string t.text) := hS2.2.cell 1
  have d2 : w2.cell? ⟨w.heap.size + 1, 2, none⟩ = some (.int .i64 t.num) := hS2.2.cell 2
  have d3 : w2.cell? ⟨w.heap.size + 1, 3, none⟩ = some (.int .i64 t.place) := hS2.2.cell 3
  have d4 : w2.cell? ⟨w.heap.size + 1, 4, none⟩ = some kv := hS2.2.cell 4
  clear hS2
  have HFA := Lib.hid (failAt_any t kv 32 w2)
  unfold NodeV at HFA
  cases hs : srt != 0
  · cases hn : numF p.fields (kidN t 0).text with
    | none =>
      have HR := Lib.hid (HSZ.out.trans (by rw [hs, hn]; try rfl))
      simp only [oi]
      go_wp2_with fail
      refine HFA.out.mono ?_
      rintro e w3 ⟨rfl, hb⟩
      go_wp2_with fail
      exact ⟨rfl, EPost.err HR.out (HB2.out.trans (hb.mono HB2.out.size))⟩
    | some k =>
      have HR := Lib.hid (HSZ.out.trans (by rw [hs, hn]; try rfl))
      have hne : ((k : Int) == -1) = false := by simp
      simp only [oi]
      go_wp2_with fail
      go_ret
      exact EPost.ok HR.out rfl HB2.out
  · have HR := Lib.hid (HSZ.out.trans (by rw [hs]; try rfl))
    go_wp2_with fail
    refine HFA.out.mono ?_
    rintro e w3 ⟨rfl, hb⟩
    go_wp2_with fail
    exact ⟨rfl, EPost.err HR.out (HB2.out.trans (hb.mono HB2.out.size))⟩

end Go.Proofs.YtdkdidgeaalcgaaDoor
