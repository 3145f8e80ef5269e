/- The contract of shape's readFields. -/
import Derived.Test.YtdkdidgeaalcgaaDoorShpD
import Derived.Laws.MakeOwn
namespace Go.Proofs.YtdkdidgeaalcgaaDoor
open Go.RowKit

def fld0 : ByteArray × Int := (⟨#[]⟩, 0)
theorem flat_rep {α : Type} (c : α → List Value) (x : α) : ∀ n : Nat, (List.replicate n x).flatMap c = (List.replicate n (c x)).flatten
  | 0 => rfl
  | n + 1 => by rw [List.replicate_succ, List.replicate_succ, List.flatten_cons, List.flatMap_cons, flat_rep c x n]
theorem Tryd.infoFld : (Tryd.prog.info? 53).map (fun i => (i.zero, i.size, i.bytes)) = some (some (.agg #[.string ⟨#[]⟩, .int .i64 0]), 2, 24) := by kernel_rfl
theorem rep_get {α : Type} (l : List α) (k : Nat) (hl : l.length = k) (hk : 0 < k) : ∀ (n q : Nat), q < n * k → (List.replicate n l).flatten[q]? = l[q % k]?
  | 0, q, h => by omega
  | n + 1, q, h => by
    rw [List.replicate_succ, List.flatten_cons]
    by_cases hq : q < k
    · rw [List.getElem?_append_left (by omega), Nat.mod_eq_of_lt hq]
    · rw [List.getElem?_append_right (by omega), hl, rep_get l k hl hk n (q - k) (by rw [Nat.succ_mul] at h; omega)]
      congr 1
      exact (Nat.mod_eq_sub_mod (by omega)).symm
theorem made_flat (z : Array Value) (k : Nat) (hz : z.size = k) (hk : 0 < k) (n : Nat) : (madeCells z (n * k)).toList = (List.replicate n z.toList).flatten := by
  subst hz
  apply List.ext_getElem?
  intro q
  by_cases hq : q < n * z.size
  · rw [rep_get z.toList z.size (by simp) hk n q hq]
    have hm : q % z.size < z.size := Nat.mod_lt _ hk
    simp only [madeCells, Array.toList_map, List.getElem?_map, Array.toList_range, List.getElem?_range hq, Option.map_some, Array.getElem?_toList]
    rw [Array.getElem?_eq_getElem hm, getElem!_pos z _ hm]
  · rw [List.getElem?_eq_none (by simp [madeCells]; omega), List.getElem?_eq_none (by simp; omega)]
theorem run_make_flds (n : Nat) (hn : n ≤ 65536) (w : World) :
    (Instr.makeSlice 48 (.int .i64 (n : Int)) (.int .i64 (n : Int))).run Tryd.prog w = .ok (.slice (some ⟨w.heap.size, 0, none⟩) n n) (w.alloc (.cells ((List.replicate n fld0).flatMap fldCells).toArray 53)) := by
  obtain ⟨i, h1, h2, h3, h4⟩ := info_parts Tryd.infoFld
  have hr := run_make (P := Tryd.prog) w 48 53 i _ Tryd.underlying48 h1 h2 .i64 .i64 n n (by omega) (Int.le_refl _) (by rw [h4]; omega) (by omega)
  simp only [Int.toNat_natCast, h3] at hr
  rw [hr]
  have e2 : madeCells (Value.agg #[.string ⟨#[]⟩, .int .i64 0]).cells (n * 2) = ((List.replicate n fld0).flatMap fldCells).toArray := by
    rw [← Array.toList_inj]
    exact (made_flat #[.string ⟨#[]⟩, .int .i64 0] 2 rfl (by omega) n).trans (by rw [flat_rep]; rfl)
  rw [e2]

/- The fields told so far, and those that are not yet. -/
def part (done : List (ByteArray × Int)) (m : Nat) : List (ByteArray × Int) := done ++ List.replicate m fld0
theorem part_len (done : List (ByteArray × Int)) (m : Nat) : (part done m).length = done.length + m := by simp [part]
theorem part_set (done : List (ByteArray × Int)) (m : Nat) (x : ByteArray × Int) : setL ((part done (m + 1)).flatMap fldCells) (done.length * 2) (fldCells x) = (part (done ++ [x]) m).flatMap fldCells := by
  unfold part
  have h : (done.flatMap fldCells).length = done.length * 2 := flat_len fld_len done
  simp only [List.flatMap_append, List.replicate_succ, List.flatMap_cons, List.flatMap_nil, List.append_nil, List.append_assoc]
  generalize done.flatMap fldCells = a at h ⊢
  rw [← h]
  unfold fldCells
  simp only [setL]
  rw [List.set_append_right _ _ (Nat.le_refl _), Nat.sub_self, List.set_append_right _ _ (by omega), show a.length + 1 - a.length = 1 by omega]
  rfl
theorem part_size (done : List (ByteArray × Int)) (m : Nat) (s : ByteArray) (y z : Int) : ((part (done ++ [(s, y)]) m).flatMap fldCells).set (done.length * 2 + 1) (.int .i64 z) = (part (done ++ [(s, z)]) m).flatMap fldCells := by
  unfold part
  have h : (done.flatMap fldCells).length = done.length * 2 := flat_len fld_len done
  simp only [List.flatMap_append, List.flatMap_cons, List.flatMap_nil, List.append_nil, List.append_assoc]
  generalize done.flatMap fldCells = a at h ⊢
  rw [← h, List.set_append_right _ _ (by omega), show a.length + 1 - a.length = 1 by omega]
  rfl

/- While readFields runs. -/
structure FlSt (w : World) (n : Nat) (p : Pt) (sv fv cv : Value) (W : World) (cs : List (ByteArray × Int)) : Prop where
  b : Below n w W
  q : Blk W n (ptCells p sv fv cv) 93
  r : Blk W (n + 1) (cs.flatMap fldCells) 53
section
variable {w W W' : World} {n : Nat} {p : Pt} {sv fv cv : Value} {cs cs' : List (ByteArray × Int)}
theorem FlSt.stay (h : FlSt w n p sv fv cv W cs) (hb : Below W.heap.size W W') : FlSt w n p sv fv cv W' cs :=
  ⟨h.b.trans (hb.mono (Nat.le_of_lt h.q.lt)), h.q.stays hb, h.r.stays hb⟩
theorem FlSt.set (h : FlSt w n p sv fv cv W cs) : FlSt w n p sv fv cv (W.setRow (n + 1) (cs'.flatMap fldCells).toArray) cs' :=
  ⟨Below.row h.b (by omega) _, h.q.rowOther (n + 1) _ (by omega), h.r.rowSame _⟩
end
theorem fldsF_yes {fs : List T} {srt : Int} {i : Nat} {t : T} {r : List T} (h : (fndT (fs.take i) t.text).isSome = true) : fldsF fs srt i (t :: r) = .error (t.place, 30) := by rw [fldsF, h]; rfl
theorem fldsF_err {fs : List T} {srt : Int} {i : Nat} {t : T} {r : List T} {e : Nat × Int} (h : fndT (fs.take i) t.text = none) (he : fldP fs srt t = .error e) : fldsF fs srt i (t :: r) = .error e := by rw [fldsF, h, he]; rfl
theorem fldsF_ok {fs : List T} {srt : Int} {i : Nat} {t : T} {r : List T} {z : Int} (h : fndT (fs.take i) t.text = none) (he : fldP fs srt t = .ok z) : fldsF fs srt i (t :: r) = pre [(t.text, z)] (fldsF fs srt (i + 1) r) := by rw [fldsF, h, he]; rfl
theorem fldP_num {fs : List T} {srt : Int} {t : T} (h : t.kids.isEmpty = true) : fldP fs srt t = .ok (-1) := by unfold fldP; rw [h]; rfl
theorem fldP_arr {fs : List T} {srt : Int} {t : T} (h : t.kids.isEmpty = false) : fldP fs srt t = sizeP fs srt t := by unfold fldP; rw [h]; rfl

def VFlds (W : World) (lo : Nat) (l : List (ByteArray × Int)) (v : Value) : Prop := FldsAt W l (fun b => lo ≤ b) v
theorem flds_done {W : World} {lo : Nat} {l : List (ByteArray × Int)} {g : Nat} (h : Blk W g (l.flatMap fldCells) 53) (hg : lo ≤ g) {n : Nat} (hn : l.length = n) (hl : n ≤ 65536) : VFlds W lo l (.slice (some ⟨g, 0, none⟩) n n) := by
  subst hn
  refine ⟨⟨flat_len fld_len l, .inr ⟨g, l.length, _, rfl, Nat.zero_le _, h, Nat.le_refl _, by unfold maxLen; omega, by rw [List.size_toArray, flat_len fld_len], ?_⟩⟩, fun b hb => ?_⟩
  · rw [List.take_of_length_le (by rw [flat_len fld_len]; omega)]
  · simp only [Value.ownBlock, Option.some.injEq] at hb
    omega

set_option maxRecDepth 100000 in
set_option maxHeartbeats 2000000 in
theorem readFields_any {w : World} {p : Pt} {sv fv cv : Value} (h : PtAt w p sv fv cv) (hl : p.fields.length ≤ 4096) (srt : Int) :
    Calls Tryd.prog 38 #[PtV p sv fv cv, .int .i64 srt] w (EPost VFlds w (fldsF p.fields srt 0 p.fields)) := by
  have HP := Lib.hid h
  obtain ⟨A, cap, rfl, hcap, hcm, hns⟩ := h.f
  have hmk := run_make_flds p.fields.length (by omega)
  have HST := Lib.hid (show FlSt w w.heap.size p sv (.slice A p.fields.length cap) cv ((w.alloc (.cells (ptCells p sv (.slice A p.fields.length cap) cv).toArray 93)).alloc (.cells ((List.replicate p.fields.length fld0).flatMap fldCells).toArray 53)) (part [] p.fields.length) from
    ⟨((Below.refl _ _).alloc (Nat.le_refl _) _).alloc (by simp) _, (Blk.new w _ _).alloc _, Blk.new2 w _ _ _⟩)
  have HNS := Lib.hid hns
  unfold PtV
  go_enter Tryd.func38, Tryd.ntmps38
  go_wp2_with fail
  clear hmk h hns
  go_loopw [15] (fun i wr => ∃ k : Nat, ∃ m : Nat, k + m = p.fields.length ∧ i = .int .i64 k ∧ ∃ done, done.length = k ∧ FlSt w w.heap.size p sv (.slice A p.fields.length cap) cv wr (part done m) ∧ fldsF p.fields srt 0 p.fields = pre done (fldsF p.fields srt k (p.fields.drop k))) (fun i _ => p.fields.length - (intOf i).toNat)
  case atStart => exact ⟨0, _, by omega, rfl, [], rfl, HST.out, by rw [pre_nil, List.drop_zero]⟩
  case round =>
    obtain ⟨k, m, hkm, rfl, done, hdl, hst, heq⟩ := hrel
    rcases m with _ | m
    · have hke : k = p.fields.length := by omega
      have HR := Lib.hid (show EPost VFlds w (fldsF p.fields srt 0 p.fields) (.returned (.slice (some ⟨w.heap.size + 1, 0, none⟩) p.fields.length p.fields.length)) wr from by
        refine EPost.ok (a := done) (by rw [heq, hke, List.drop_length]; simp [fldsF, pre]) ?_ hst.b
        have h1 := hst.r
        rw [show part done 0 = done by simp [part]] at h1
        exact flds_done h1 (by omega) (hdl.trans hke) (by omega))
      clear hst heq
      go_wp2_with fail
      go_ret
      exact HR.out
    · have hlt : k < p.fields.length := by omega
      obtain ⟨tk, htk⟩ : ∃ tk, p.fields[k]? = some tk := ⟨_, List.getElem?_eq_getElem hlt⟩
      obtain ⟨g, rfl, hgl, hget⟩ := HNS.out (by omega)
      obtain ⟨u, hr, hu⟩ := hget k tk htk
      have HR := Lib.hid (rangeAt_below hr hst.b hgl)
      have HEQ := Lib.hid (heq.trans (show _ = pre done (fldsF p.fields srt k (tk :: p.fields.drop (k + 1))) by rw [List.drop_eq_getElem_cons hlt, (List.getElem?_eq_some_iff.1 htk).2]))
      obtain ⟨W1, hW1⟩ : ∃ W, wr.alloc (.cells (nodeCells tk u).toArray 39) = W := ⟨_, rfl⟩
      have HS1 := Lib.hid (show FlSt w w.heap.size p sv (.slice (some ⟨g, 0, none⟩) p.fields.length cap) cv W1 (part done (m + 1)) from hW1 ▸ hst.stay ((Below.refl _ _).alloc (Nat.le_refl _) _))
      have HB5 := Lib.hid (show Blk W1 wr.heap.size (nodeCells tk u) 39 from hW1 ▸ Blk.new wr _ _)
      have HU : Hid (∀ W, Below w.heap.size w W → KAt 39 W tk.kids (fun _ => True) u) := Lib.hid fun W hb => hu.below hb
      have HFI : Hid (∀ W, Below w.heap.size w W → Calls Tryd.prog 48 #[.slice (some ⟨g, 0, none⟩) k cap, .string tk.text] W (FndPost W (fndT (p.fields.take k) tk.text))) := Lib.hid fun W hb => by
        have := find_any tk.text (some ⟨g, 0, none⟩) cap (p.fields.take k) W ((HNS.out.below hb).take k) (by simp; omega)
        rwa [show (p.fields.take k).length = k by simp; omega] at this
      have hu1 := hu.one
      have hgn : w.heap.size + 1 < wr.heap.size := hst.r.lt
      clear hget hr hu hst heq htk
      go_wp2_with (first
        | ((with_reducible refine at_ld 39 (.tmp 18) ?_); refine wpList_load_mid rfl 39 (.tmp 18) rfl g (k * 5) rfl (nodeCells tk u) _ HR.out Tryd.underlying39 rfl Tryd.sizeNode ?_)
        | ((with_reducible refine at_st 39 (.tmp 7) ?_); refine wpList_store_new rfl 39 (.tmp 7) (.tmp 19) rfl (nodeCells tk u) (old := zeroNodeCells) rfl rfl Tryd.sizeNode rfl (nodeCells_one _ _ hu1) ?_; rw [hW1]))
      clear hW1
      refine wp_region_held_drew (S := fun W => FlSt w w.heap.size p sv (.slice (some ⟨g, 0, none⟩) p.fields.length cap) cv W (part done (m + 1)) ∧ Blk W wr.heap.size (nodeCells tk u) 39) (by kernel_rfl) ⟨HS1.out.stay (Below.refl _ _).drew, HB5.out⟩ (fun hS => ?_)
      refine wpAnyH_take (i := 0) (oi := ⟨some 20, _, _, _, _, _⟩) (v := .pointer (some ⟨w.heap.size, 5, none⟩)) rfl (by kernel_rfl) (by kernel_rfl) (by kernel_rfl) (fun _ _ _ h => h) (Or.inl ⟨by rfl, fun W _ => by go_simp⟩) hS ?_
      try simp only [Act.put, List.setIfInBounds_toArray, List.set_cons_zero, List.set_cons_succ]
      refine wpAnyH_take (i := 1) (oi := ⟨some 21, _, _, _, _, _⟩) (v := .slice (some ⟨g, 0, none⟩) p.fields.length cap) rfl (by kernel_rfl) (by kernel_rfl) (by kernel_rfl) (fun _ _ _ h => h) (Or.inl ⟨by rfl, fun W hW => by have hcx : W.cell? ⟨w.heap.size, 5, none⟩ = some (.slice (some ⟨g, 0, none⟩) p.fields.length cap) := hW.1.q.cell 5; go_simp⟩) hS ?_
      try simp only [Act.put, List.setIfInBounds_toArray, List.set_cons_zero, List.set_cons_succ]
      refine wpAnyH_take (i := 2) (oi := ⟨some 22, _, _, _, _, _⟩) (v := .int .i64 k) rfl (by kernel_rfl) (by kernel_rfl) (by kernel_rfl) (fun _ _ _ h => h) (Or.inl ⟨by rfl, fun W _ => by go_simp⟩) hS ?_
      try simp only [Act.put, List.setIfInBounds_toArray, List.set_cons_zero, List.set_cons_succ]
      refine wpAnyH_take (i := 3) (oi := ⟨some 23, _, _, _, _, _⟩) (v := .slice (some ⟨g, 0, none⟩) k cap) rfl (by kernel_rfl) (by kernel_rfl) (by kernel_rfl) (fun _ _ _ h => h) (Or.inl ⟨by rfl, fun W _ => by go_simp; intro h; omega⟩) hS ?_
      try simp only [Act.put, List.setIfInBounds_toArray, List.set_cons_zero, List.set_cons_succ]
      refine wpAnyH_take (i := 4) (oi := ⟨some 24, _, _, _, _, _⟩) (v := .pointer (some ⟨wr.heap.size, 1, none⟩)) rfl (by kernel_rfl) (by kernel_rfl) (by kernel_rfl) (fun _ _ _ h => h) (Or.inl ⟨by rfl, fun W _ => by go_simp⟩) hS ?_
      try simp only [Act.put, List.setIfInBounds_toArray, List.set_cons_zero, List.set_cons_succ]
      refine wpAnyH_take (i := 5) (oi := ⟨some 25, _, _, _, _, _⟩) (v := .string tk.text) rfl (by kernel_rfl) (by kernel_rfl) (by kernel_rfl) (fun _ _ _ h => h) (Or.inl ⟨by rfl, fun W hW => by have hcx : W.cell? ⟨wr.heap.size, 1, none⟩ = some (.string tk.text) := hW.2.cell 1; go_simp⟩) hS ?_
      try simp only [Act.put, List.setIfInBounds_toArray, List.set_cons_zero, List.set_cons_succ]
      refine AnyH.only (i := 6) (o := ⟨some 26, _, _, _, _, _⟩) (by kernel_rfl) rfl (by rfl) (fun K hK => ?_)
      go_simp
      refine (HFI.out _ hS.1.b).mono ?_
      rintro e w2 ⟨rfl, hb⟩
      have HS2 := Lib.hid (hS.1.stay hb)
      have HB2 := Lib.hid (hS.2.stays hb)
      refine hK.out _ _ ⟨HS2.out, HB2.out⟩ ?_
      clear hK K hS hb
      try simp only [Act.put, List.setIfInBounds_toArray, List.set_cons_zero, List.set_cons_succ]
      have d0 : w2.cell? ⟨wr.heap.size, 0, none⟩ = some (.int .i64 tk.kind) := HB2.out.cell 0
      have d1 : w2.cell? ⟨wr.heap.size, 1, none⟩ = some (.string tk.text) := HB2.out.cell 1
      have d2 : w2.cell? ⟨wr.heap.size, 2, none⟩ = some (.int .i64 tk.num) := HB2.out.cell 2
      have d3 : w2.cell? ⟨wr.heap.size, 3, none⟩ = some (.int .i64 tk.place) := HB2.out.cell 3
      have d4 : w2.cell? ⟨wr.heap.size, 4, none⟩ = some u := HB2.out.cell 4
      cases hf : fndT (p.fields.take k) tk.text with
      | some j =>
        have HRes := Lib.hid (show fldsF p.fields srt 0 p.fields = .error (tk.place, 30) from HEQ.out.trans (by rw [fldsF_yes (by rw [hf]; rfl)]; rfl))
        have hne : ((j : Int) != -1) = true := by simp
        simp only [oi]
        refine wpAnyH_take (i := 7) (oi := ⟨some 27, _, _, _, _, _⟩) (v := .bool true) rfl (by kernel_rfl) (by kernel_rfl) (by kernel_rfl) (fun _ _ _ h => h) (Or.inl ⟨by rfl, fun W _ => by go_simp⟩) ⟨HS2.out, HB2.out⟩ ?_
        try simp only [Act.put, List.setIfInBounds_toArray, List.set_cons_zero, List.set_cons_succ]
        refine wpAnyH_done (by kernel_rfl) ?_ _
        have HFA := Lib.hid (failAt_any tk u 30 w2)
        unfold NodeV at HFA
        go_wp2_with fail
        refine HFA.out.mono ?_
        rintro e w3 ⟨rfl, hb⟩
        go_wp2_with fail
        exact ⟨rfl, EPost.err HRes.out (HS2.out.b.trans (hb.mono HS2.out.b.size))⟩
      | none =>
        simp only [oi]
        refine wpAnyH_take (i := 7) (oi := ⟨some 27, _, _, _, _, _⟩) (v := .bool false) rfl (by kernel_rfl) (by kernel_rfl) (by kernel_rfl) (fun _ _ _ h => h) (Or.inl ⟨by rfl, fun W _ => by go_simp⟩) ⟨HS2.out, HB2.out⟩ ?_
        try simp only [Act.put, List.setIfInBounds_toArray, List.set_cons_zero, List.set_cons_succ]
        refine wpAnyH_done (by kernel_rfl) ?_ _
        have HF := Lib.hid hf
        clear hf
        have hsr : (part done (m + 1)).flatMap fldCells = (part done (m + 1)).flatMap fldCells := rfl
        have HSC := Lib.hid (setCells_blk (fldCells (tk.text, -1)) (k * 2) w2 _ HS2.out.r)
        have HS3 := Lib.hid (HS2.out.set (cs' := part (done ++ [(tk.text, -1)]) m))
        have HE3 := Lib.hid (show w2.setCells (w.heap.size + 1) (k * 2) (fldCells (tk.text, -1)) = w2.setRow (w.heap.size + 1) ((part (done ++ [(tk.text, -1)]) m).flatMap fldCells).toArray from by rw [HSC.out, ← hdl, part_set])
        have HTH := Lib.hid (HS2.out.r.there (k * 2) 2 (by rw [flat_len fld_len, part_len]; omega))
        obtain ⟨W3, hW3⟩ : ∃ W, w2.setRow (w.heap.size + 1) ((part (done ++ [(tk.text, -1)]) m).flatMap fldCells).toArray = W := ⟨_, rfl⟩
        rw [hW3] at HS3 HE3
        have HB3 := Lib.hid (show Blk W3 wr.heap.size (nodeCells tk u) 39 from hW3 ▸ HB2.out.rowOther _ _ (by omega))
        have HU3 := Lib.hid (HU.out _ HS3.out.b)
        have e0 : W3.cell? ⟨wr.heap.size, 0, none⟩ = some (.int .i64 tk.kind) := HB3.out.cell 0
        have e1 : W3.cell? ⟨wr.heap.size, 1, none⟩ = some (.string tk.text) := HB3.out.cell 1
        have e2 : W3.cell? ⟨wr.heap.size, 2, none⟩ = some (.int .i64 tk.num) := HB3.out.cell 2
        have e3 : W3.cell? ⟨wr.heap.size, 3, none⟩ = some (.int .i64 tk.place) := HB3.out.cell 3
        have e4 : W3.cell? ⟨wr.heap.size, 4, none⟩ = some u := HB3.out.cell 4
        have HIA := Lib.hid (isArray_any (t := tk) HU3.out)
        unfold NodeV at HIA
        go_wp2_with (first
          | ((with_reducible refine at_st 53 (.tmp 35) ?_); (refine wpList_store_mid rfl 53 (.tmp 35) (.tmp 34) rfl (w.heap.size + 1) (k * 2) (fldCells (tk.text, -1)).toArray rfl rfl HTH.out Tryd.sizeFld (by simp [fldCells, Value.oneCell']) ?_; rw [List.toList_toArray, HE3.out])))
        refine HIA.out.mono ?_
        rintro e w4 ⟨rfl, hb⟩
        have HS4 := Lib.hid (HS3.out.stay hb)
        have HB4 := Lib.hid (HB3.out.stays hb)
        clear hb HIA e0 e1 e2 e3 e4 d0 d1 d2 d3 d4 hW3
        cases hq : tk.kids.isEmpty
        · have HFP := Lib.hid (fldP_arr (fs := p.fields) (srt := srt) hq)
          have HSZ := Lib.hid (sizeOf_any (p := p) (sv := sv) (cv := cv) (HP.out.below HS4.out.b).f (t := tk) (HU.out _ HS4.out.b) srt)
          unfold PtV NodeV at HSZ
          have hq4 := HS4.out.q
          have hb4 := HB4.out
          go_wp2_with (first
            | ((with_reducible refine at_ld 93 (.tmp 2) ?_); refine wpList_load_blk rfl 93 (.tmp 2) rfl w.heap.size (ptCells p sv (.slice (some ⟨g, 0, none⟩) p.fields.length cap) cv) rfl hq4 Tryd.underlying93 rfl Tryd.sizeParts ?_)
            | ((with_reducible refine at_ld 39 (.tmp 7) ?_); refine wpList_load_blk rfl 39 (.tmp 7) rfl wr.heap.size (nodeCells tk u) rfl hb4 Tryd.underlying39 rfl Tryd.sizeNode ?_))
          refine HSZ.out.mono ?_
          clear HSZ hq4 hb4
          intro e w5 hp
          cases hz : sizeP p.fields srt tk with
          | error pc =>
            obtain ⟨q, c⟩ := pc
            rw [hz] at hp
            obtain ⟨rfl, hb⟩ := hp
            have HRes := Lib.hid (show fldsF p.fields srt 0 p.fields = .error (q, c) from HEQ.out.trans (by rw [fldsF_err HF.out (HFP.out.trans hz)]; rfl))
            clear hz
            go_wp2_with fail
            exact ⟨rfl, EPost.err HRes.out (HS4.out.b.trans (hb.mono HS4.out.b.size))⟩
          | ok z =>
            rw [hz] at hp
            obtain ⟨v, rfl, rfl, hb⟩ := hp
            have HS5 := Lib.hid (HS4.out.stay hb)
            have HN := Lib.hid (show fldsF p.fields srt 0 p.fields = pre (done ++ [(tk.text, z)]) (fldsF p.fields srt (k + 1) (p.fields.drop (k + 1))) from HEQ.out.trans (by rw [fldsF_ok HF.out (HFP.out.trans hz), pre_pre]))
            have HS6 := Lib.hid (show FlSt w w.heap.size p sv (.slice (some ⟨g, 0, none⟩) p.fields.length cap) cv (w5.setCell ⟨w.heap.size + 1, k * 2 + 1, none⟩ (.int .i64 z)) (part (done ++ [(tk.text, z)]) m) from by
              rw [setCell_eq_setRow w5 (w.heap.size + 1) (k * 2 + 1) _ _ (0, 0) (.int .i64 z) HS5.out.r, List.setIfInBounds_toArray, ← hdl, part_size]
              exact HS5.out.set)
            have hth := HS5.out.r.there (k * 2 + 1) 1 (by rw [flat_len fld_len, part_len]; simp; omega) 0 (by omega)
            have hth1 : (w5.cell? ⟨w.heap.size + 1, k * 2 + 1, none⟩).isSome = true := hth.1
            have hth2 : w5.frozen? ⟨w.heap.size + 1, k * 2 + 1, none⟩ = false := hth.2
            obtain ⟨x, hx⟩ := Option.isSome_iff_exists.1 hth1
            clear hz hb hth hth1
            go_wp2
            go_roundw
            case rel => exact ⟨k + 1, m, by omega, by go_num, done ++ [(tk.text, z)], by simp [hdl], HS6.out, HN.out⟩
            case measure => simp [intOf]; omega
        · have HN := Lib.hid (show fldsF p.fields srt 0 p.fields = pre (done ++ [(tk.text, -1)]) (fldsF p.fields srt (k + 1) (p.fields.drop (k + 1))) from HEQ.out.trans (by rw [fldsF_ok HF.out (fldP_num hq), pre_pre]))
          go_wp2_with fail
          go_roundw
          case rel => exact ⟨k + 1, m, by omega, by go_num, done ++ [(tk.text, -1)], by simp [hdl], HS4.out, HN.out⟩
          case measure => simp [intOf]; omega

end Go.Proofs.YtdkdidgeaalcgaaDoor
