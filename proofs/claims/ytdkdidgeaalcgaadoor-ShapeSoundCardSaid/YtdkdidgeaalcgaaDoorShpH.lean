/- The contract of the reader's add. -/
import Derived.Test.YtdkdidgeaalcgaaDoorShpG
namespace Go.Proofs.YtdkdidgeaalcgaaDoor
open Go.RowKit Go.Maps

/- A store into the map, at the operation. -/
theorem wp_mapUpdate_own {H : Type} {P : Program} (w : World) {o : Oper} {a : Act} {K' : Act → World → Prop} {Q : Exit → Act → World → Prop}
    (m x v : Operand) (t : TypeId) (hop : o.op = Op.mapUpdate t m x v)
    (k e : TypeId) (K : Keyed P k) (ht : P.underlying t = some (.map k e)) (R : Value → Option (DataW H × List MemPlace)) (b n : Nat) (D : DataW H)
    (hm : a.eval m = .map (some b)) (hown : w.ownsMap P k R b n D) (hn : n < maxLen) (key val : Value) (kl : Lit) (hx : a.eval x = key) (hv : a.eval v = val) (hkey : keyOf P k key = some kl)
    (d : DataW H) (ps : List MemPlace) (hval : R val = some (d, ps))
    (hK : ∀ w', w'.ownsMap P k R b (n + 1) (D.put kl d) → w.grownBy w' (some b) → K' (a.put o.dst undef) w') : o.wp P a w K' Q := by
  obtain ⟨w', hrun, r1, r2⟩ := hown.update K ht hn hkey hval
  unfold Oper.wp
  simp [execOp, hop, hm, hx, hv, hrun, Result.andThen]
  exact hK w' r1 r2

theorem Tryd.tabInfo : ∃ i z, RowInfo Tryd.prog 44 50 5 80 i z := by
  have h : (Tryd.prog.info? 50).map (fun i => (i.zero, i.size, i.bytes)) = some (some (.agg #[.string ⟨#[]⟩, .int .i64 0, .int .i64 0, .slice none 0 0, .slice none 0 0]), 5, 80) := by kernel_rfl
  obtain ⟨i0, hi, hz0, hz1, hz2⟩ := info_parts h
  exact ⟨i0, _, Tryd.underlying44, hi, hz0, hz1, hz2, rfl⟩
theorem RdSt.drew {w : World} {B R M : Nat} {tys : List Ty} {tv : Value} (h : RdSt w B R M tys tv) : RdSt w.drew B R M tys tv := h.below (Below.refl _ _).drew

def zeroTyCells : List Value := [.string ⟨#[]⟩, .int .i64 0, .int .i64 0, .slice none 0 0, .slice none 0 0]
theorem tyz_one (s : ByteArray) (n : Int) : ∀ u ∈ [Value.string s, .int .i64 n, .int .i64 0, .slice none 0 0, .slice none 0 0], u.oneCell' = true := by
  intro u hu
  simp only [List.mem_cons, List.not_mem_nil, or_false] at hu
  rcases hu with rfl | rfl | rfl | rfl | rfl <;> rfl
theorem oneP_twice {tys : List Ty} {n : T} (h : (fndY tys n.text).isSome = true) : oneP tys n = .error (n.place, 30) := by unfold oneP; rw [h]; rfl
theorem oneP_many {tys : List Ty} {n : T} (h : fndY tys n.text = none) (hm : 8 < (ptOf n.kids).fields.length) : oneP tys n = .error (n.place, 22) := by unfold oneP; rw [h]; simp [hm]
theorem oneP_go {tys : List Ty} {n : T} (h : fndY tys n.text = none) (hm : ¬ 8 < (ptOf n.kids).fields.length) : oneP tys n = match fldsF (ptOf n.kids).fields (sortN (ptOf n.kids).sort.text) 0 (ptOf n.kids).fields with
    | .error e => .error e
    | .ok fl => match ofP tys (ptOf n.kids) (sortN (ptOf n.kids).sort.text) with
      | .error e => .error e
      | .ok o => match factsF (ptOf n.kids).fields (sortN (ptOf n.kids).sort.text) o (ptOf n.kids).facts with
        | .error e => .error e
        | .ok fc => .ok ⟨n.text, sortN (ptOf n.kids).sort.text, o, fl, fc⟩ := by unfold oneP; rw [h, decide_eq_false hm]; rfl

def AddPost (w : World) (B R M : Nat) (tys : List Ty) (r : E Ty) (e : Ending) (w' : World) : Prop :=
  match r with
  | .ok x => e = .returned (.tuple #[]) ∧ (∃ tv', RdSt w' B R M (tys ++ [x]) tv') ∧ Below B w w'
  | .error (p, c) => e = .panicked [{ v := sfV p c, recovered := false }] ∧ Below B w w'
theorem AddPost.err {w w' : World} {B R M : Nat} {tys : List Ty} {r : E Ty} {p : Nat} {c : Int} (hr : r = .error (p, c)) (h : Below B w w') : AddPost w B R M tys r (.panicked [{ v := sfV p c, recovered := false }]) w' := by rw [hr]; exact ⟨rfl, h⟩
theorem AddPost.ok {w w' : World} {B R M : Nat} {tys : List Ty} {r : E Ty} {x : Ty} {tv' : Value} (hr : r = .ok x) (hs : RdSt w' B R M (tys ++ [x]) tv') (h : Below B w w') : AddPost w B R M tys r (.returned (.tuple #[])) w' := by rw [hr]; exact ⟨rfl, ⟨_, hs⟩, h⟩

theorem below_nqS {B : Nat} {a w : World} (h : Below B a w) (n : Nat) : Below B a (w.drewN n) := ⟨h.os, h.tape, h.output, h.size, h.block⟩
theorem filter_len (k : Int) (l : List T) : (l.filter (fun t => t.kind == k)).length ≤ l.length := List.length_filter_le _ _

set_option maxRecDepth 100000 in
set_option maxHeartbeats 4000000 in
theorem addType_any {w : World} {B R M : Nat} {tys : List Ty} {tv : Value} (hr : RdSt w B R M tys tv) {t : T} {S : Nat → Prop} {kv : Value} (hk : KAt 39 w t.kids S kv) (hl : t.kids.length ≤ 4096) (htl : tys.length ≤ 4096) (hz : t.text.size ≤ maxLen) (hz2 : (kidN (ptOf t.kids).sort 0).text.size ≤ maxLen) :
    Calls Tryd.prog 27 #[.pointer (some ⟨R, 0, none⟩), NodeV t kv] w (AddPost w B R M tys (oneP tys t)) := by
  have hBw : B ≤ w.heap.size := by have := hr.m.lt; have := hr.lo; omega
  have HRD := Lib.hid hr
  have HKV := Lib.hid hk
  obtain ⟨W0, hW0⟩ : ∃ W, w.alloc (.cells (nodeCells t kv).toArray 39) = W := ⟨_, rfl⟩
  have HB0 := Lib.hid (show Below w.heap.size w W0 from hW0 ▸ (Below.refl _ _).alloc (Nat.le_refl _) _)
  have HK0 := Lib.hid (show Blk W0 w.heap.size (nodeCells t kv) 39 from hW0 ▸ Blk.new w _ _)
  have HR0 := Lib.hid (hr.below HB0.out)
  obtain ⟨c, hc, hrun⟩ := HR0.out.m.look hz
  have hlk : ∀ q, (Instr.lookup 85 (.map (some M)) (.string t.text) true).run Tryd.prog (W0.drewN q) = .ok (.tuple #[.int .i64 c, .bool (fndY tys t.text).isSome]) (W0.drewN q) := fun q => hrun _ rfl
  have n1 : W0.cell? ⟨w.heap.size, 1, none⟩ = some (.string t.text) := HK0.out.cell 1
  have l1 : W0.cell? ⟨R, 1, none⟩ = some (.map (some M)) := HR0.out.l.cell 1
  unfold nodeCells at hW0
  unfold NodeV
  clear hrun hc hr hk
  go_enter Tryd.func27, Tryd.ntmps27
  go_upto_region 1 with fail
  try rw [hW0]
  clear hW0
  cases hf : fndY tys t.text with
  | some q =>
    rw [hf] at hlk
    have HRes := Lib.hid (oneP_twice (tys := tys) (n := t) (by rw [hf]; rfl))
    go_quiet (fail)
    have HK8 := Lib.hid (show Blk (W0.drewN nq) w.heap.size (nodeCells t kv) 39 from HK0.out)
    have HB8 := Lib.hid (below_nqS HB0.out nq)
    clear hlk n1 l1
    generalize W0.drewN nq = W1 at *
    have HFL := Lib.hid (failAt_any t kv 30 W1)
    unfold NodeV at HFL
    have hk8 := HK8.out
    go_wp2_with ((with_reducible refine at_ld 39 (.tmp 3) ?_); refine wpList_load_blk rfl 39 (.tmp 3) rfl w.heap.size (nodeCells t kv) rfl hk8 Tryd.underlying39 rfl Tryd.sizeNode ?_)
    refine HFL.out.mono ?_
    rintro e w5 ⟨rfl, hb⟩
    go_wp2_with fail
    exact ⟨rfl, AddPost.err HRes.out ((HB8.out.trans (hb.mono HB8.out.size)).mono hBw)⟩
  | none =>
    rw [hf] at hlk
    go_quiet (fail)
    have HK8 := Lib.hid (show Blk (W0.drewN nq) w.heap.size (nodeCells t kv) 39 from HK0.out)
    have HB8 := Lib.hid (below_nqS HB0.out nq)
    clear hlk n1 l1 HK0 HB0 HR0
    generalize W0.drewN nq = W1 at *
    have HPO := Lib.hid (partsOf_any (HKV.out.below HB8.out) hl)
    unfold NodeV at HPO
    have hk8 := HK8.out
    go_wp2_with ((with_reducible refine at_ld 39 (.tmp 3) ?_); refine wpList_load_blk rfl 39 (.tmp 3) rfl w.heap.size (nodeCells t kv) rfl hk8 Tryd.underlying39 rfl Tryd.sizeNode ?_)
    refine HPO.out.mono ?_
    have HG := Lib.hid (@oneP_go tys t hf)
    have HM := Lib.hid (@oneP_many tys t hf)
    have hfl : (ptOf t.kids).fields.length ≤ 4096 := Nat.le_trans (filter_len _ _) hl
    have hcl : (ptOf t.kids).facts.length ≤ 4096 := Nat.le_trans (filter_len _ _) hl
    clear HPO hk8
    generalize ptOf t.kids = p at *
    rintro e w2 ⟨sv, fv, cv, rfl, hpa, hb⟩
    obtain ⟨fa, fc, rfl, hfc, hfm, hns⟩ := hpa.f
    have HPA0 := Lib.hid hpa
    have HB2 := Lib.hid (HB8.out.trans (hb.mono HB8.out.size))
    have HK2 := Lib.hid (HK8.out.stays hb)
    obtain ⟨w6, hw6⟩ : ∃ W, w2.alloc (.cells (ptCells p sv (.slice fa p.fields.length fc) cv).toArray 93) = W := ⟨_, rfl⟩
    have hb26 : Below w2.heap.size w2 w6 := hw6 ▸ (Below.refl _ _).alloc (Nat.le_refl _) _
    have HB6 := Lib.hid (HB2.out.trans (hb26.mono HB2.out.size))
    have HK6 := Lib.hid (HK2.out.stays hb26)
    have HQ6 := Lib.hid (show Blk w6 w2.heap.size (ptCells p sv (.slice fa p.fields.length fc) cv) 93 from hw6 ▸ Blk.new w2 _ _)
    have HPA := Lib.hid (hpa.below hb26)
    have hg6 : w.heap.size < w2.heap.size := HK2.out.lt
    have p5 : w6.cell? ⟨w2.heap.size, 5, none⟩ = some (.slice fa p.fields.length fc) := HQ6.out.cell 5
    have hone : ∀ y ∈ ptCells p sv (.slice fa p.fields.length fc) cv, y.oneCell' = true := by
      intro y hy
      simp only [ptCells, List.mem_cons, List.not_mem_nil, or_false] at hy
      rcases hy with rfl | rfl | rfl | rfl | rfl | rfl | rfl
      all_goals first | rfl | exact hpa.s.one | (obtain ⟨_, _, rfl, _⟩ := hpa.c; rfl)
    have HONE := Lib.hid hone
    clear hb hb26 hpa hns hone HB8 HK8
    by_cases hm : 8 < p.fields.length
    · have HRes := Lib.hid (HM.out hm)
      have hmi : (8 : Int) < (p.fields.length : Int) := by omega
      have HFL := Lib.hid (failAt_any t kv 22 w6)
      unfold NodeV at HFL
      have hk6 := HK6.out
      go_wp2_with (first
        | ((with_reducible refine at_st 93 (.tmp 6) ?_); refine wpList_store_new rfl 93 (.tmp 6) (.tmp 22) rfl (ptCells p sv (.slice fa p.fields.length fc) cv) (old := zeroPtCells) rfl rfl Tryd.sizeParts rfl HONE.out ?_; rw [hw6])
        | ((with_reducible refine at_ld 39 (.tmp 3) ?_); refine wpList_load_blk rfl 39 (.tmp 3) rfl w.heap.size (nodeCells t kv) rfl hk6 Tryd.underlying39 rfl Tryd.sizeNode ?_))
      refine HFL.out.mono ?_
      rintro e w5 ⟨rfl, hb⟩
      go_wp2_with fail
      exact ⟨rfl, AddPost.err HRes.out ((HB6.out.trans (hb.mono HB6.out.size)).mono hBw)⟩
    · have hmi : ¬ (8 : Int) < (p.fields.length : Int) := by omega
      have HGO := Lib.hid (HG.out hm)
      clear HG HM
      go_upto_region 7 with (first
        | ((with_reducible refine at_st 93 (.tmp 6) ?_); refine wpList_store_new rfl 93 (.tmp 6) (.tmp 22) rfl (ptCells p sv (.slice fa p.fields.length fc) cv) (old := zeroPtCells) rfl rfl Tryd.sizeParts rfl HONE.out ?_; rw [hw6]))
      clear hw6 p5 HONE HPA0 HB2 HK2
      try simp only [Act.put]
      generalize w2.heap.size = g6 at *
      generalize Value.slice fa p.fields.length fc = fv at *
      go_cut [7] (fun x W => ∃ g7, x = .pointer (some ⟨g7, 0, none⟩) ∧ w6.heap.size ≤ g7 ∧ Below w6.heap.size w6 W ∧ Blk W g7 [.string t.text, .int .i64 (sortN p.sort.text), .int .i64 0, .slice none 0 0, .slice none 0 0] 50)
      case first =>
        have hk6 := HK6.out
        have hq6 := HQ6.out
        refine wp_region_held_drew (S := fun W => Blk W w.heap.size (nodeCells t kv) 39 ∧ Blk W g6 (ptCells p sv fv cv) 93) (by kernel_rfl) ⟨hk6, hq6⟩ (fun hS => ?_)
        have hc7 : Below w6.heap.size w6 w6.drew := (Below.refl _ _).drew
        replace hk6 : Blk w6.drew w.heap.size (nodeCells t kv) 39 := hk6
        replace hq6 : Blk w6.drew g6 (ptCells p sv fv cv) 93 := hq6
        have hw6l := HK6.out.lt
        have hw6q := HQ6.out.lt
        generalize w6.drew = W7 at *
        have hle := hc7.size
        refine wpAnyH_take (i := 0) (oi := ⟨some 29, _, _, _, _, _⟩) (v := .pointer (some ⟨w.heap.size, 1, none⟩)) rfl (by kernel_rfl) (by kernel_rfl) (by kernel_rfl) (fun _ _ _ h => h) (Or.inl ⟨by rfl, fun W _ => by go_simp⟩) hS ?_
        try simp only [Act.put, List.setIfInBounds_toArray, List.set_cons_zero, List.set_cons_succ]
        refine wpAnyH_take (i := 1) (oi := ⟨some 30, _, _, _, _, _⟩) (v := .string t.text) rfl (by kernel_rfl) (by kernel_rfl) (by kernel_rfl) (fun _ _ _ h => h) (Or.inl ⟨by rfl, fun W hW => by have hcx : W.cell? ⟨w.heap.size, 1, none⟩ = some (.string t.text) := (hW.1).cell 1; go_simp⟩) hS ?_
        try simp only [Act.put, List.setIfInBounds_toArray, List.set_cons_zero, List.set_cons_succ]
        refine wpAnyH_take (i := 2) (oi := ⟨some 31, _, _, _, _, _⟩) (v := .pointer (some ⟨g6, 0, none⟩)) rfl (by kernel_rfl) (by kernel_rfl) (by kernel_rfl) (fun _ _ _ h => h) (Or.inl ⟨by rfl, fun W _ => by go_simp⟩) hS ?_
        try simp only [Act.put, List.setIfInBounds_toArray, List.set_cons_zero, List.set_cons_succ]
        refine wpAnyH_take (i := 3) (oi := ⟨some 32, _, _, _, _, _⟩) (v := .pointer (some ⟨g6, 1, none⟩)) rfl (by kernel_rfl) (by kernel_rfl) (by kernel_rfl) (fun _ _ _ h => h) (Or.inl ⟨by rfl, fun W _ => by go_simp⟩) hS ?_
        try simp only [Act.put, List.setIfInBounds_toArray, List.set_cons_zero, List.set_cons_succ]
        refine wpAnyH_take (i := 4) (oi := ⟨some 33, _, _, _, _, _⟩) (v := .string p.sort.text) rfl (by kernel_rfl) (by kernel_rfl) (by kernel_rfl) (fun _ _ _ h => h) (Or.inl ⟨by rfl, fun W hW => by have hcx : W.cell? ⟨g6, 1, none⟩ = some (.string p.sort.text) := (hW.2).cell 1; go_simp⟩) hS ?_
        try simp only [Act.put, List.setIfInBounds_toArray, List.set_cons_zero, List.set_cons_succ]
        refine AnyH.pair (i := 5) (k := 7) (o := ⟨some 34, _, _, _, _, _⟩) (u := ⟨some 7, _, _, _, _, _⟩) (by kernel_rfl) rfl rfl (by rfl) (by rfl) (fun K hK => ?_) (fun K hK => ?_)
        · go_simp
          refine (sortOf_any p.sort.text _).mono ?_
          rintro e wq ⟨rfl, he⟩
          obtain rfl : W7 = wq := he.symm
          refine hK.out _ _ hS ?_
          clear hK K
          try simp only [Act.put, List.setIfInBounds_toArray, List.set_cons_zero, List.set_cons_succ]
          refine wpAnyH_take (i := 6) (oi := ⟨some 35, _, _, _, _, _⟩) (v := .agg #[.string t.text, .int .i64 (sortN p.sort.text), .int .i64 0, .slice none 0 0, .slice none 0 0]) rfl (by kernel_rfl) (by kernel_rfl) (by kernel_rfl) (fun _ _ _ h => h) (Or.inl ⟨by rfl, fun W _ => by go_simp⟩) hS ?_
          try simp only [Act.put, List.setIfInBounds_toArray, List.set_cons_zero, List.set_cons_succ]
          refine AnyH.only (i := 7) (o := ⟨some 7, _, _, _, _, _⟩) (by kernel_rfl) rfl (by rfl) (fun K hK => ?_)
          go_simp
          obtain ⟨W8, hx⟩ : ∃ W, W7.alloc (.cells zeroTyCells.toArray 50) = W := ⟨_, rfl⟩
          have h7 : Blk W8 W7.heap.size zeroTyCells 50 := hx ▸ Blk.new _ _ _
          have hb : Below W7.heap.size W7 W8 := hx ▸ (Below.refl _ _).alloc (Nat.le_refl _) _
          replace hS : Blk W8 w.heap.size (nodeCells t kv) 39 ∧ Blk W8 g6 (ptCells p sv fv cv) 93 := ⟨hk6.stays hb, hq6.stays hb⟩
          have hc8 := hc7.trans (hb.mono hle)
          unfold zeroTyCells at hx
          try rw [hx]
          clear hx hb hc7
          refine hK.out _ _ hS ?_
          clear hK K
          try simp only [Act.put, List.setIfInBounds_toArray, List.set_cons_zero, List.set_cons_succ]
          refine AnyH.only (i := 8) (o := ⟨none, _, _, _, _, _⟩) (by kernel_rfl) rfl (by rfl) (fun K hK => ?_)
          refine wp_store_blk 50 (.tmp 7) (.tmp 35) rfl W7.heap.size [.string t.text, .int .i64 (sortN p.sort.text), .int .i64 0, .slice none 0 0, .slice none 0 0] rfl rfl h7 Tryd.sizeSType rfl (tyz_one _ _) ?_
          refine hK.out _ _ ⟨hS.1.rowOther _ _ (by omega), hS.2.rowOther _ _ (by omega)⟩ ?_
          clear hK K
          try simp only [Act.put]
          refine wpAnyH_done (by kernel_rfl) ?_ _
          go_wp2_with fail
          go_meet
          exact ⟨_, rfl, hle, Below.row hc8 hle _, h7.rowSame _⟩
        · go_simp
          obtain ⟨W8, hx⟩ : ∃ W, W7.alloc (.cells zeroTyCells.toArray 50) = W := ⟨_, rfl⟩
          have h7 : Blk W8 W7.heap.size zeroTyCells 50 := hx ▸ Blk.new _ _ _
          have hb : Below W7.heap.size W7 W8 := hx ▸ (Below.refl _ _).alloc (Nat.le_refl _) _
          replace hS : Blk W8 w.heap.size (nodeCells t kv) 39 ∧ Blk W8 g6 (ptCells p sv fv cv) 93 := ⟨hk6.stays hb, hq6.stays hb⟩
          have hc8 := hc7.trans (hb.mono hle)
          unfold zeroTyCells at hx
          try rw [hx]
          clear hx hb hc7
          refine hK.out _ _ hS ?_
          clear hK K
          try simp only [Act.put, List.setIfInBounds_toArray, List.set_cons_zero, List.set_cons_succ]
          refine AnyH.only (i := 5) (o := ⟨some 34, _, _, _, _, _⟩) (by kernel_rfl) rfl (by rfl) (fun K hK => ?_)
          go_simp
          refine (sortOf_any p.sort.text _).mono ?_
          rintro e wq ⟨rfl, he⟩
          obtain rfl : W8 = wq := he.symm
          refine hK.out _ _ hS ?_
          clear hK K
          try simp only [Act.put, List.setIfInBounds_toArray, List.set_cons_zero, List.set_cons_succ]
          refine wpAnyH_take (i := 6) (oi := ⟨some 35, _, _, _, _, _⟩) (v := .agg #[.string t.text, .int .i64 (sortN p.sort.text), .int .i64 0, .slice none 0 0, .slice none 0 0]) rfl (by kernel_rfl) (by kernel_rfl) (by kernel_rfl) (fun _ _ _ h => h) (Or.inl ⟨by rfl, fun W _ => by go_simp⟩) hS ?_
          try simp only [Act.put, List.setIfInBounds_toArray, List.set_cons_zero, List.set_cons_succ]
          refine AnyH.only (i := 8) (o := ⟨none, _, _, _, _, _⟩) (by kernel_rfl) rfl (by rfl) (fun K hK => ?_)
          refine wp_store_blk 50 (.tmp 7) (.tmp 35) rfl W7.heap.size [.string t.text, .int .i64 (sortN p.sort.text), .int .i64 0, .slice none 0 0, .slice none 0 0] rfl rfl h7 Tryd.sizeSType rfl (tyz_one _ _) ?_
          refine hK.out _ _ ⟨hS.1.rowOther _ _ (by omega), hS.2.rowOther _ _ (by omega)⟩ ?_
          clear hK K
          try simp only [Act.put]
          refine wpAnyH_done (by kernel_rfl) ?_ _
          go_wp2_with fail
          go_meet
          exact ⟨_, rfl, hle, Below.row hc8 hle _, h7.rowSame _⟩
      case rest =>
        obtain ⟨g7, rfl, hg7, hc7, hy7⟩ := hcut
        rename World => W7
        have HC7 := Lib.hid hc7
        have HY7 := Lib.hid hy7
        have hq7 := HQ6.out.stays hc7
        have y1 : W7.cell? ⟨g7, 1, none⟩ = some (.int .i64 (sortN p.sort.text)) := hy7.cell 1
        have HRF := Lib.hid (readFields_any (HPA.out.below hc7) hfl (sortN p.sort.text))
        unfold PtV at HRF
        clear hc7 hy7
        go_wp2_with ((with_reducible refine at_ld 93 (.tmp 6) ?_); refine wpList_load_blk rfl 93 (.tmp 6) rfl g6 (ptCells p sv fv cv) rfl hq7 Tryd.underlying93 rfl Tryd.sizeParts ?_)
        refine HRF.out.mono ?_
        clear HRF y1 hq7
        intro e w8 hp
        cases hz1 : fldsF p.fields (sortN p.sort.text) 0 p.fields with
        | error pc =>
          obtain ⟨q, c⟩ := pc
          rw [hz1] at hp
          obtain ⟨rfl, hb⟩ := hp
          have HRes := Lib.hid (HGO.out.trans (by rw [hz1]))
          have hB8 := HB6.out.trans ((HC7.out.trans (hb.mono HC7.out.size)).mono HB6.out.size)
          go_wp2_with fail
          exact ⟨rfl, AddPost.err HRes.out (hB8.mono hBw)⟩
        | ok fl =>
          rw [hz1] at hp
          obtain ⟨v1, rfl, hv1, hb⟩ := hp
          obtain ⟨a1, m1, k1, rfl⟩ : ∃ a n c, v1 = .slice a n c := (RAt.slice hv1).elim fun a h => h.elim fun c h => ⟨a, _, c, h⟩
          generalize hgv1 : Value.slice a1 m1 k1 = v1 at *
          have HG1 := Lib.hid (HGO.out.trans (by rw [hz1]))
          have HC8 := Lib.hid (HC7.out.trans (hb.mono HC7.out.size))
          have HY8 := Lib.hid (HY7.out.stays hb)
          have HV8 := Lib.hid hv1
          have hth := HY8.out.there 3 1 (by show 3 + 1 ≤ 5; omega) 0 (by omega)
          obtain ⟨x3, hx3⟩ : ∃ x, w8.cell? ⟨g7, 3, none⟩ = some x := Option.isSome_iff_exists.1 hth.1
          have hfr3 : w8.frozen? ⟨g7, 3, none⟩ = false := hth.2
          obtain ⟨W9, hW9⟩ : ∃ W, w8.setCell ⟨g7, 3, none⟩ v1 = W := ⟨_, rfl⟩
          have he9 := setCell_eq_setRow w8 g7 3 _ _ (0, 0) v1 HY8.out
          have HY9 := Lib.hid (show Blk W9 g7 [.string t.text, .int .i64 (sortN p.sort.text), .int .i64 0, v1, .slice none 0 0] 50 from hW9 ▸ he9 ▸ HY8.out.rowSame _)
          have HC9 := Lib.hid (show Below w6.heap.size w6 W9 from hW9 ▸ he9 ▸ Below.row HC8.out hg7 _)
          have HV9 := Lib.hid (show FldsAt W9 fl (fun b => W7.heap.size ≤ b) v1 from hW9 ▸ hv1.setCell _ _ (fun b hb2 => by have := HY7.out.lt; show b ≠ g7; omega))
          have hq9 := HQ6.out.stays HC9.out
          have y1 : W9.cell? ⟨g7, 1, none⟩ = some (.int .i64 (sortN p.sort.text)) := HY9.out.cell 1
          have HB9 := Lib.hid (HB6.out.trans (HC9.out.mono HB6.out.size))
          have HOF := Lib.hid (of_any (HRD.out.below HB9.out) (HPA.out.below HC9.out) hz2 (sortN p.sort.text))
          unfold PtV at HOF
          subst hgv1
          clear hv1 hb hth he9
          go_wp2_with ((with_reducible refine at_ld 93 (.tmp 6) ?_); refine wpList_load_blk rfl 93 (.tmp 6) rfl g6 (ptCells p sv fv cv) rfl hq9 Tryd.underlying93 rfl Tryd.sizeParts ?_)
          refine HOF.out.mono ?_
          clear HOF y1 hq9 hW9 hx3 hfr3
          generalize Value.slice a1 m1 k1 = v1 at *
          intro e w10 hp
          cases hz3 : ofP tys p (sortN p.sort.text) with
          | error pc =>
            obtain ⟨q, c⟩ := pc
            rw [hz3] at hp
            obtain ⟨rfl, hb⟩ := hp
            have HRes := Lib.hid (HG1.out.trans (by rw [hz3]))
            have hB10 := HB9.out.trans (hb.mono HB9.out.size)
            go_wp2_with fail
            exact ⟨rfl, AddPost.err HRes.out (hB10.mono hBw)⟩
          | ok o =>
            rw [hz3] at hp
            obtain ⟨v2, rfl, rfl, hb⟩ := hp
            have HG2 := Lib.hid (HG1.out.trans (by rw [hz3]))
            have HC10 := Lib.hid (HC9.out.trans (hb.mono HC9.out.size))
            have HY10 := Lib.hid (HY9.out.stays hb)
            have HV10 := Lib.hid (HV9.out.below hb)
            have hth := HY10.out.there 2 1 (by show 2 + 1 ≤ 5; omega) 0 (by omega)
            obtain ⟨x2, hx2⟩ : ∃ x, w10.cell? ⟨g7, 2, none⟩ = some x := Option.isSome_iff_exists.1 hth.1
            have hfr2 : w10.frozen? ⟨g7, 2, none⟩ = false := hth.2
            obtain ⟨W11, hW11⟩ : ∃ W, w10.setCell ⟨g7, 2, none⟩ (.int .i64 o) = W := ⟨_, rfl⟩
            have he11 := setCell_eq_setRow w10 g7 2 _ _ (0, 0) (.int .i64 o) HY10.out
            have HY11 := Lib.hid (show Blk W11 g7 [.string t.text, .int .i64 (sortN p.sort.text), .int .i64 o, v1, .slice none 0 0] 50 from hW11 ▸ he11 ▸ HY10.out.rowSame _)
            have HC11 := Lib.hid (show Below w6.heap.size w6 W11 from hW11 ▸ he11 ▸ Below.row HC10.out hg7 _)
            have HV11 := Lib.hid (show FldsAt W11 fl (fun b => W7.heap.size ≤ b) v1 from hW11 ▸ HV10.out.setCell _ _ (fun b hb2 => by have := HY7.out.lt; show b ≠ g7; omega))
            have hq11 := HQ6.out.stays HC11.out
            have hy11 := HY11.out
            have HB11 := Lib.hid (HB6.out.trans (HC11.out.mono HB6.out.size))
            have HFC := Lib.hid (readFacts_any (HPA.out.below HC11.out) hcl ⟨t.text, sortN p.sort.text, o, [], []⟩ v1 (.slice none 0 0))
            unfold PtV TyV at HFC
            clear hb hth he11
            go_wp2_with (first
              | ((with_reducible refine at_ld 93 (.tmp 6) ?_); refine wpList_load_blk rfl 93 (.tmp 6) rfl g6 (ptCells p sv fv cv) rfl hq11 Tryd.underlying93 rfl Tryd.sizeParts ?_)
              | ((with_reducible refine at_ld 50 (.tmp 7) ?_); refine wpList_load_blk rfl 50 (.tmp 7) rfl g7 [.string t.text, .int .i64 (sortN p.sort.text), .int .i64 o, v1, .slice none 0 0] rfl hy11 Tryd.underlying50 rfl Tryd.sizeSType ?_))
            refine HFC.out.mono ?_
            clear HFC hq11 hy11 hW11 hx2 hfr2
            intro e w12 hp
            cases hz4 : factsF p.fields (sortN p.sort.text) o p.facts with
            | error pc =>
              obtain ⟨q, c⟩ := pc
              rw [hz4] at hp
              obtain ⟨rfl, hb⟩ := hp
              have HRes := Lib.hid (HG2.out.trans (by rw [hz4]))
              have hB12 := HB11.out.trans (hb.mono HB11.out.size)
              go_wp2_with fail
              exact ⟨rfl, AddPost.err HRes.out (hB12.mono hBw)⟩
            | ok fcs =>
              rw [hz4] at hp
              obtain ⟨v3, rfl, hv3, hb⟩ := hp
              have HRes := Lib.hid (show oneP tys t = .ok (⟨t.text, sortN p.sort.text, o, fl, fcs⟩ : Ty) from HG2.out.trans (by rw [hz4]))
              obtain ⟨x, hx⟩ : ∃ x : Ty, (⟨t.text, sortN p.sort.text, o, fl, fcs⟩ : Ty) = x := ⟨_, rfl⟩
              have hxn : x.name = t.text := hx ▸ rfl
              rw [hx] at HRes
              have HC12 := Lib.hid (HC11.out.trans (hb.mono HC11.out.size))
              have HY12 := Lib.hid (HY11.out.stays hb)
              have HV12 := Lib.hid (HV11.out.below hb)
              have hle11 := HC11.out.size
              have hly7 := HY11.out.lt
              have hth := HY12.out.there 4 1 (by show 4 + 1 ≤ 5; omega) 0 (by omega)
              obtain ⟨x4, hx4⟩ : ∃ x, w12.cell? ⟨g7, 4, none⟩ = some x := Option.isSome_iff_exists.1 hth.1
              have hfr4 : w12.frozen? ⟨g7, 4, none⟩ = false := hth.2
              obtain ⟨a3, m3, k3, rfl⟩ : ∃ a n c, v3 = .slice a n c := (RAt.slice hv3).elim fun a h => h.elim fun c h => ⟨a, _, c, h⟩
              obtain ⟨W13, hW13⟩ : ∃ W, w12.setCell ⟨g7, 4, none⟩ (.slice a3 m3 k3) = W := ⟨_, rfl⟩
              have he13 := setCell_eq_setRow w12 g7 4 _ _ (0, 0) (.slice a3 m3 k3) HY12.out
              have HY13 := Lib.hid (show Blk W13 g7 (tyCells x v1 (.slice a3 m3 k3)) 50 from hW13 ▸ he13 ▸ hx ▸ HY12.out.rowSame _)
              have HC13 := Lib.hid (show Below w6.heap.size w6 W13 from hW13 ▸ he13 ▸ Below.row HC12.out hg7 _)
              have hW7l := HC7.out.size
              have hg7l := HY7.out.lt
              have HA13 := Lib.hid (show TyAt W13 x (fun b => w6.heap.size ≤ b ∧ b ≠ g7) v1 (.slice a3 m3 k3) from hx ▸
                ⟨(hW13 ▸ HV12.out.setCell _ _ (fun b hb2 => by show b ≠ g7; omega) : FldsAt W13 fl (fun b => W7.heap.size ≤ b) v1).mono fun b hb2 _ => ⟨by omega, by omega⟩,
                 (hW13 ▸ RAt.setCell hv3 _ _ (fun b hb2 => by show b ≠ g7; omega) : FasAt W13 fcs (fun b => W11.heap.size ≤ b) (.slice a3 m3 k3)).mono fun b hb2 _ => ⟨by omega, by omega⟩⟩)
              have HB13 := Lib.hid (HB6.out.trans (HC13.out.mono HB6.out.size))
              have hw6n := HB6.out.size
              obtain ⟨ta, tc, htv⟩ := HRD.out.t.slice
              subst htv
              have HR13 := Lib.hid (HRD.out.below HB13.out)
              have HK13 := Lib.hid (HK6.out.stays HC13.out)
              have HVB := Lib.hid (show ∀ b, (Value.slice ta tys.length tc).ownBlock = some b → b < w.heap.size ∧ (B ≤ b ∧ b ≠ R ∧ b ≠ M) from fun b hb => by
                obtain ⟨us, ho, hs', _⟩ := HRD.out.t
                exact ⟨(ho.lt b hb).2, hs' b hb⟩)
              clear hb hth he13 hv3
              go_wp2_with fail
              clear hW13 hx4 hfr4
              generalize Value.slice a3 m3 k3 = v3 at *
              refine AnyE.begin2 (S := fun W => Blk W R [(.slice ta tys.length tc), .map (some M)] 87 ∧ Blk W w.heap.size (nodeCells t kv) 39) (by kernel_rfl) ⟨HR13.out.l.drew, HK13.out.drew⟩ (fun hS => ?_)
              refine AnyE.take (i := 0) (oi := ⟨some 51, _, _, _, _, _⟩) (v := .pointer (some ⟨R, 0, none⟩)) rfl (by kernel_rfl) (by kernel_rfl) (by kernel_rfl) (by kernel_rfl) (fun _ _ _ h => h) (Or.inl ⟨by rfl, fun W _ => by go_simp⟩) hS ?_
              try simp only [Act.put, List.setIfInBounds_toArray, List.set_cons_zero, List.set_cons_succ]
              refine AnyE.take (i := 1) (oi := ⟨some 52, _, _, _, _, _⟩) (v := .pointer (some ⟨R, 0, none⟩)) rfl (by kernel_rfl) (by kernel_rfl) (by kernel_rfl) (by kernel_rfl) (fun _ _ _ h => h) (Or.inl ⟨by rfl, fun W _ => by go_simp⟩) hS ?_
              try simp only [Act.put, List.setIfInBounds_toArray, List.set_cons_zero, List.set_cons_succ]
              refine AnyE.take (i := 2) (oi := ⟨some 53, _, _, _, _, _⟩) (v := .pointer (some ⟨R, 1, none⟩)) rfl (by kernel_rfl) (by kernel_rfl) (by kernel_rfl) (by kernel_rfl) (fun _ _ _ h => h) (Or.inl ⟨by rfl, fun W _ => by go_simp⟩) hS ?_
              try simp only [Act.put, List.setIfInBounds_toArray, List.set_cons_zero, List.set_cons_succ]
              refine AnyE.take (i := 3) (oi := ⟨some 54, _, _, _, _, _⟩) (v := .map (some M)) rfl (by kernel_rfl) (by kernel_rfl) (by kernel_rfl) (by kernel_rfl) (fun _ _ _ h => h) (Or.inl ⟨by rfl, fun W hW => by have hcx : W.cell? ⟨R, 1, none⟩ = some (.map (some M)) := (hW.1).cell 1; go_simp⟩) hS ?_
              try simp only [Act.put, List.setIfInBounds_toArray, List.set_cons_zero, List.set_cons_succ]
              refine AnyE.take (i := 4) (oi := ⟨some 55, _, _, _, _, _⟩) (v := .pointer (some ⟨w.heap.size, 1, none⟩)) rfl (by kernel_rfl) (by kernel_rfl) (by kernel_rfl) (by kernel_rfl) (fun _ _ _ h => h) (Or.inl ⟨by rfl, fun W _ => by go_simp⟩) hS ?_
              try simp only [Act.put, List.setIfInBounds_toArray, List.set_cons_zero, List.set_cons_succ]
              refine AnyE.take (i := 5) (oi := ⟨some 56, _, _, _, _, _⟩) (v := .string t.text) rfl (by kernel_rfl) (by kernel_rfl) (by kernel_rfl) (by kernel_rfl) (fun _ _ _ h => h) (Or.inl ⟨by rfl, fun W hW => by have hcx : W.cell? ⟨w.heap.size, 1, none⟩ = some (.string t.text) := (hW.2).cell 1; go_simp⟩) hS ?_
              try simp only [Act.put, List.setIfInBounds_toArray, List.set_cons_zero, List.set_cons_succ]
              refine AnyE.take (i := 6) (oi := ⟨some 57, _, _, _, _, _⟩) (v := .pointer (some ⟨R, 0, none⟩)) rfl (by kernel_rfl) (by kernel_rfl) (by kernel_rfl) (by kernel_rfl) (fun _ _ _ h => h) (Or.inl ⟨by rfl, fun W _ => by go_simp⟩) hS ?_
              try simp only [Act.put, List.setIfInBounds_toArray, List.set_cons_zero, List.set_cons_succ]
              refine AnyE.take (i := 7) (oi := ⟨some 58, _, _, _, _, _⟩) (v := .pointer (some ⟨R, 0, none⟩)) rfl (by kernel_rfl) (by kernel_rfl) (by kernel_rfl) (by kernel_rfl) (fun _ _ _ h => h) (Or.inl ⟨by rfl, fun W _ => by go_simp⟩) hS ?_
              try simp only [Act.put, List.setIfInBounds_toArray, List.set_cons_zero, List.set_cons_succ]
              refine AnyE.take (i := 8) (oi := ⟨some 59, _, _, _, _, _⟩) (v := .pointer (some ⟨R, 0, none⟩)) rfl (by kernel_rfl) (by kernel_rfl) (by kernel_rfl) (by kernel_rfl) (fun _ _ _ h => h) (Or.inl ⟨by rfl, fun W _ => by go_simp⟩) hS ?_
              try simp only [Act.put, List.setIfInBounds_toArray, List.set_cons_zero, List.set_cons_succ]
              refine AnyE.take (i := 9) (oi := ⟨some 60, _, _, _, _, _⟩) (v := (.slice ta tys.length tc)) rfl (by kernel_rfl) (by kernel_rfl) (by kernel_rfl) (by kernel_rfl) (fun _ _ _ h => h) (Or.inl ⟨by rfl, fun W hW => by have hcx : W.cell? ⟨R, 0, none⟩ = some ((.slice ta tys.length tc)) := (hW.1).cell 0; go_simp⟩) hS ?_
              try simp only [Act.put, List.setIfInBounds_toArray, List.set_cons_zero, List.set_cons_succ]
              refine AnyE.take (i := 10) (oi := ⟨some 61, _, _, _, _, _⟩) (v := .int .i64 (tys.length : Int)) rfl (by kernel_rfl) (by kernel_rfl) (by kernel_rfl) (by kernel_rfl) (fun _ _ _ h => h) (Or.inl ⟨by rfl, fun W _ => by go_simp⟩) hS ?_
              try simp only [Act.put, List.setIfInBounds_toArray, List.set_cons_zero, List.set_cons_succ]
              obtain ⟨mn, D, hmo, hmn, hmi, hmd⟩ := HR13.out.drew.m
              refine AnyE.one (i := 11) (o := ⟨none, _, _, _, _, _⟩) (by kernel_rfl) rfl (by rfl) (fun K hK => ?_)
              try simp only [Act.put, List.setIfInBounds_toArray, List.set_cons_zero, List.set_cons_succ]
              have HW1 := Lib.hid (show (Lit.int .i64 (tys.length : Int)).wf = true from WalkArith.wf_i64 (by omega))
              have HMN := Lib.hid (show mn < maxLen from by unfold maxLen; omega)
              have HKEY := Lib.hid (show keyOf Tryd.prog 9 (.string t.text) = some (keyL t.text) from WideMaps.keyOf_string_mk Tryd.underlying9 hz)
              refine wp_mapUpdate_own (D := D) (R := plainElem Tryd.prog 3) (b := M) (n := mn) (key := .string t.text) (val := .int .i64 (tys.length : Int)) (kl := keyL t.text) (d := .lit (.int .i64 (tys.length : Int))) (ps := []) W13.drew (.tmp 54) (.tmp 56) (.tmp 61) 85 rfl 9 3 lawStr Tryd.underlying85 (hm := rfl) (hown := hmo) (hn := HMN.out) (hx := rfl) (hv := rfl) (hkey := HKEY.out) (hval := plainElem_int Tryd.underlying3 HW1.out) (hK := fun w14 hm1 hg1 => ?_)
              have hML := HRD.out.m.lt
              have hRL := HRD.out.l.lt
              have HM14 := Lib.hid (show MapAt w14 M (tys ++ [x]) from MapAt.snoc hmn hmi hmd (by rw [hxn]; exact hm1) (by rw [hxn]; exact hf))
              have HL1 := Lib.hid (HR13.out.drew.l.grown hg1 (fun e => HRD.out.ne (Option.some.inj e)))
              have HY14 := Lib.hid ((show Blk W13.drew g7 (tyCells x v1 v3) 50 from HY13.out).grown hg1 (fun e => by have := Option.some.inj e; omega))
              have HT14 := Lib.hid (show TysAt w14 tys (fun b => B ≤ b ∧ b ≠ R ∧ b ≠ M) (.slice ta tys.length tc) from HR13.out.drew.t.keep fun b hb hl => ⟨hb, hg1.block b hl (fun e => hb.2.2 (Option.some.inj e))⟩)
              have HB14 := Lib.hid (show Below B w w14 from (HB13.out.drew.mono hBw).grown hg1 (by have := HB13.out.size; show B ≤ W13.heap.size; omega) (fun k hk => by have := Option.some.inj hk; have := HRD.out.lo; omega))
              have HA14 := Lib.hid (show TyAt w14 x (fun b => w6.heap.size ≤ b ∧ b ≠ g7) v1 v3 from (show TyAt W13.drew x _ v1 v3 from HA13.out).keep fun b hb hl => ⟨hb, hg1.block b hl (fun e => by have := Option.some.inj e; omega)⟩)
              have hsz14 : w.heap.size ≤ w14.heap.size := HB14.out.size
              clear hmo hmn hmi hmd hm1 hg1 hS
              refine hK.out _ _ (fun h => absurd rfl h) ?_
              clear hK K
              refine AnyE.done (by kernel_rfl) ?_ _
              go_wp2_with fail
              clear hxn hx
              refine AnyE.begin2 (S := fun W => Blk W R [(.slice ta tys.length tc), .map (some M)] 87 ∧ Blk W g7 (tyCells x v1 v3) 50) (by kernel_rfl) ⟨HL1.out.drew, HY14.out.drew⟩ (fun hS => ?_)
              replace HT14 := Lib.hid HT14.out.drew
              replace HM14 := Lib.hid (HM14.out.below (Below.refl _ _).drew)
              replace HB14 := Lib.hid HB14.out.drew
              replace HA14 := Lib.hid (show TyAt w14.drew x (fun b => w6.heap.size ≤ b ∧ b ≠ g7) v1 v3 from HA14.out.keep fun b hb _ => ⟨hb, rfl⟩)
              generalize w14.drew = W15 at *
              refine AnyE.take (i := 0) (oi := ⟨some 62, _, _, _, _, _⟩) (v := .pointer (some ⟨R, 0, none⟩)) rfl (by kernel_rfl) (by kernel_rfl) (by kernel_rfl) (by kernel_rfl) (fun _ _ _ h => h) (Or.inl ⟨by rfl, fun W _ => by go_simp⟩) hS ?_
              try simp only [Act.put, List.setIfInBounds_toArray, List.set_cons_zero, List.set_cons_succ]
              refine AnyE.take (i := 1) (oi := ⟨some 63, _, _, _, _, _⟩) (v := .pointer (some ⟨R, 0, none⟩)) rfl (by kernel_rfl) (by kernel_rfl) (by kernel_rfl) (by kernel_rfl) (fun _ _ _ h => h) (Or.inl ⟨by rfl, fun W _ => by go_simp⟩) hS ?_
              try simp only [Act.put, List.setIfInBounds_toArray, List.set_cons_zero, List.set_cons_succ]
              refine AnyE.take (i := 2) (oi := ⟨some 64, _, _, _, _, _⟩) (v := .pointer (some ⟨R, 0, none⟩)) rfl (by kernel_rfl) (by kernel_rfl) (by kernel_rfl) (by kernel_rfl) (fun _ _ _ h => h) (Or.inl ⟨by rfl, fun W _ => by go_simp⟩) hS ?_
              try simp only [Act.put, List.setIfInBounds_toArray, List.set_cons_zero, List.set_cons_succ]
              refine AnyE.take (i := 3) (oi := ⟨some 65, _, _, _, _, _⟩) (v := .pointer (some ⟨R, 0, none⟩)) rfl (by kernel_rfl) (by kernel_rfl) (by kernel_rfl) (by kernel_rfl) (fun _ _ _ h => h) (Or.inl ⟨by rfl, fun W _ => by go_simp⟩) hS ?_
              try simp only [Act.put, List.setIfInBounds_toArray, List.set_cons_zero, List.set_cons_succ]
              refine AnyE.take (i := 4) (oi := ⟨some 66, _, _, _, _, _⟩) (v := (.slice ta tys.length tc)) rfl (by kernel_rfl) (by kernel_rfl) (by kernel_rfl) (by kernel_rfl) (fun _ _ _ h => h) (Or.inl ⟨by rfl, fun W hW => by have hcx : W.cell? ⟨R, 0, none⟩ = some ((.slice ta tys.length tc)) := (hW.1).cell 0; go_simp⟩) hS ?_
              try simp only [Act.put, List.setIfInBounds_toArray, List.set_cons_zero, List.set_cons_succ]
              refine AnyE.take (i := 5) (oi := ⟨some 67, _, _, _, _, _⟩) (v := .agg ([.string x.name, .int .i64 x.sort, .int .i64 x.of, v1, v3]).toArray) rfl (by kernel_rfl) (by kernel_rfl) (by kernel_rfl) (by kernel_rfl) (fun _ _ _ h => h) (yieldsIf_load_mid (cs := [.string x.name, .int .i64 x.sort, .int .i64 x.of, v1, v3]) (by rfl) 50 (.tmp 7) rfl (g7) 0 (by go_simp) _ (fun W hW j v hj => by rw [Nat.zero_add, (hW.2).cell j]; exact hj) Tryd.underlying50 rfl Tryd.sizeSType) hS ?_
              try simp only [Act.put, List.setIfInBounds_toArray, List.set_cons_zero, List.set_cons_succ]
              refine AnyE.one (i := 6) (o := ⟨some 68, _, _, _, _, _⟩) (by kernel_rfl) rfl (by rfl) (fun K hK => ?_)
              go_simp
              obtain ⟨W16, hx16⟩ : ∃ W, W15.alloc (.cells [.string x.name, .int .i64 x.sort, .int .i64 x.of, v1, v3].toArray 50) = W := ⟨_, rfl⟩
              have hb16 : Below W15.heap.size W15 W16 := hx16 ▸ (Below.refl _ _).alloc (Nat.le_refl _) _
              have h16 : Blk W16 W15.heap.size (tyCells x v1 v3) 50 := hx16 ▸ Blk.new _ _ _
              try rw [hx16]
              clear hx16
              replace hS : Blk W16 R [(.slice ta tys.length tc), .map (some M)] 87 ∧ Blk W16 g7 (tyCells x v1 v3) 50 := ⟨hS.1.stays hb16, hS.2.stays hb16⟩
              have HT16 := Lib.hid (HT14.out.below hb16)
              have HM16 := Lib.hid (HM14.out.below hb16)
              have HB16 := Lib.hid (HB14.out.trans (hb16.mono (Nat.le_trans hBw HB14.out.size)))
              have HA16 := Lib.hid (show TyAt W16 x (fun b => w6.heap.size ≤ b ∧ b ≠ g7) v1 v3 from HA14.out.keep fun b hb hl => ⟨hb, hb16.block b hl⟩)
              refine hK.out _ _ (fun _ => hS) ?_
              clear hK K
              try simp only [Act.put, List.setIfInBounds_toArray, List.set_cons_zero, List.set_cons_succ]
              refine AnyE.one (i := 7) (o := ⟨some 69, _, _, _, _, _⟩) (by kernel_rfl) rfl (by rfl) (fun K hK => ?_)
              obtain ⟨ic, zc, IC⟩ := Tryd.tabInfo
              refine wp_append_ty (b := W15.heap.size) (.tmp 66) (.tmp 68) rfl IC rfl HT16.out (by have := HB16.out.size; have := HRD.out.l.lt; have := HRD.out.m.lt; refine ⟨by omega, by omega, by omega⟩) rfl h16 (HA16.out.keep fun b hb _ => ⟨⟨⟨by omega, by have := HRD.out.l.lt; omega, by have := HRD.out.m.lt; omega⟩, fun e => by have := (HVB.out b e).1; omega⟩, rfl⟩) (by omega) (fun v2 W17 hc2 hg2 hl2 => ?_)
              have hneR : some R ≠ (Value.slice ta tys.length tc).ownBlock := fun e => (HVB.out R e.symm).2.2.1 rfl
              have hneM : some M ≠ (Value.slice ta tys.length tc).ownBlock := fun e => (HVB.out M e.symm).2.2.2 rfl
              have hneG : some g7 ≠ (Value.slice ta tys.length tc).ownBlock := fun e => by have := (HVB.out g7 e.symm).1; omega
              replace hS : Blk W17 R [(.slice ta tys.length tc), .map (some M)] 87 ∧ Blk W17 g7 (tyCells x v1 v3) 50 := ⟨hS.1.grown hg2 hneR, hS.2.grown hg2 hneG⟩
              have HM17 := Lib.hid (HM16.out.kept hg2 hneM)
              have HB17 := Lib.hid (HB16.out.grown hg2 (by have := HB16.out.size; omega) fun b hb => (HVB.out b hb).2.1)
              have HC17 := Lib.hid hc2
              obtain ⟨a2, m2, k2, rfl⟩ : ∃ a n c, v2 = .slice a n c := hc2.slice.elim fun a h => h.elim fun c h => ⟨a, _, c, h⟩
              clear hg2 hc2 hl2
              refine hK.out _ _ (fun _ => hS) ?_
              clear hK K
              try simp only [Act.put, List.setIfInBounds_toArray, List.set_cons_zero, List.set_cons_succ]
              refine AnyE.one (i := 8) (o := ⟨some 70, _, _, _, _, _⟩) (by kernel_rfl) rfl (by rfl) (fun K hK => ?_)
              go_simp
              refine hK.out _ _ (fun _ => hS) ?_
              clear hK K
              try simp only [Act.put, List.setIfInBounds_toArray, List.set_cons_zero, List.set_cons_succ]
              refine AnyE.take (i := 9) (oi := ⟨some 71, _, _, _, _, _⟩) (v := .pointer (some ⟨R, 0, none⟩)) rfl (by kernel_rfl) (by kernel_rfl) (by kernel_rfl) (by kernel_rfl) (fun _ _ _ h => h) (Or.inl ⟨by rfl, fun W _ => by go_simp⟩) hS ?_
              try simp only [Act.put, List.setIfInBounds_toArray, List.set_cons_zero, List.set_cons_succ]
              have hl0 : W17.cell? ⟨R, 0, none⟩ = some (.slice ta tys.length tc) := hS.1.cell 0
              have hlf : W17.frozen? ⟨R, 0, none⟩ = false := (hS.1.there 0 1 (by simp) 0 (by omega)).2
              have HFIN := Lib.hid (show RdSt (W17.setCell ⟨R, 0, none⟩ (.slice a2 m2 k2)) B R M (tys ++ [x]) (.slice a2 m2 k2) from ⟨by rw [setCell_eq_setRow W17 R 0 _ _ (0, 0) _ hS.1]; exact hS.1.rowSame _, HC17.out.keep fun b hb _ => ⟨hb, Below.heap_setCell _ _ _ _ hb.2.1⟩, HM17.out.same (Below.heap_setCell _ _ _ _ (Ne.symm HRD.out.ne)), HRD.out.lo, HRD.out.ne⟩)
              have HBF := Lib.hid (show Below B w (W17.setCell ⟨R, 0, none⟩ (.slice a2 m2 k2)) from by rw [setCell_eq_setRow W17 R 0 _ _ (0, 0) _ hS.1]; exact Below.row HB17.out HRD.out.lo.1 _)
              refine AnyE.one (i := 10) (o := ⟨none, _, _, _, _, _⟩) (by kernel_rfl) rfl (by rfl) (fun K hK => ?_)
              go_simp
              refine hK.out _ _ (fun h => absurd rfl h) ?_
              clear hK K
              refine AnyE.done (by kernel_rfl) ?_ _
              clear hS hl0 hlf
              go_wp2_with fail
              refine bodyPost_end (results_none Tryd.results27 _ _ _) rfl ?_
              exact AddPost.ok HRes.out HFIN.out HBF.out


end Go.Proofs.YtdkdidgeaalcgaaDoor
