/- The contracts of code.kidOf, term, termOf: the kid of a number, or the zero node; its term. The contract of code.termsOf: the terms of all kids, in a new row. -/
import Derived.Test.YtnmpfpnldcgbaaaDoorP24
namespace Go.Proofs.YtnmpfpnldcgbaaaDoor
section
open Go.RowKit

theorem Tryd.sizeTerm : (Tryd.prog.info? 40).map (·.size) = some 2 := by kernel_rfl
theorem Tryd.sizeInstr : (Tryd.prog.info? 43).map (·.size) = some 11 := by kernel_rfl
theorem tmCells_one (t : Tm) : ∀ u ∈ tmCells t, u.oneCell' = true := by
  intro u hu
  simp only [tmCells, List.mem_cons, List.not_mem_nil, or_false] at hu
  rcases hu with rfl | rfl <;> rfl
theorem kidP_in {t : T} {i : Nat} (h : i < t.kids.length) : kidP t i = t.kids[i] := by unfold kidP; simp [h]
theorem kidP_out {t : T} {i : Nat} (h : t.kids.length ≤ i) : kidP t i = zeroT := by unfold kidP; simp [h]

def KidPost (w : World) (t : T) (S : Nat → Prop) (e : Ending) (w' : World) : Prop := ∃ u, e = .returned (NodeV t u) ∧ KAt 25 w' t.kids S u ∧ Below w.heap.size w w'

set_option maxRecDepth 100000 in
set_option maxHeartbeats 2000000 in
theorem kidOf_in {w : World} {t : T} {S : Nat → Prop} {kv : Value} (hk : KAt 25 w t.kids S kv) {i : Nat} (hi : i < t.kids.length) :
    Calls Tryd.prog 39 #[NodeV t kv, .int .i64 i] w (KidPost w (kidP t i) S) := by
  rw [kidP_in hi]
  rcases hk.form with ⟨rfl, hnil⟩ | ⟨g, cap, rfl, hg, hcap, hcm, hget⟩
  · rw [hnil] at hi; simp at hi
  · obtain ⟨u, hr, hT⟩ := hget i t.kids[i] (List.getElem?_eq_getElem hi)
    generalize t.kids[i] = tk at hr hT ⊢
    generalize t.kids.length = n at *
    unfold NodeV
    clear hget hk
    have HB := Lib.hid (show Below w.heap.size w ((w.alloc (.cells (nodeCells t (.slice (some ⟨g, 0, none⟩) n cap)).toArray 25)).alloc (.cells zeroNodeCells.toArray 25)) from (((Below.refl _ _).alloc (Nat.le_refl _) _).alloc (by simp) _))
    have HRes := Lib.hid (Blk.new2 w (.cells (nodeCells t (.slice (some ⟨g, 0, none⟩) n cap)).toArray 25) zeroNodeCells 25)
    have HR := Lib.hid (rangeAt_below hr (HB.out.mono (Nat.le_refl _)) hg)
    have HT := Lib.hid (hT.below HB.out)
    have HLT := Lib.hid (hT.kat)
    clear hr hT hg
    unfold maxLen at hcm
    go_enter Tryd.func39, Tryd.ntmps39
    go_wp2_with (first
      | ((with_reducible refine at_ld 25 (.tmp 18) ?_); refine wpList_load_mid rfl 25 (.tmp 18) rfl g (i * 5) rfl (nodeCells tk u) _ HR.out Tryd.underlying25 rfl Tryd.sizeNode ?_)
      | ((with_reducible refine at_st 25 (.tmp 4) ?_); refine wpList_store_blk rfl 25 (.tmp 4) (.tmp 19) rfl (w.heap.size + 1) (nodeCells tk u) rfl rfl HRes.out Tryd.sizeNode rfl (nodeCells_one _ _ HT.out.kat.one) ?_))
    exact ret_blk (cs := nodeCells tk u) Tryd.results39 rfl HRes.out Tryd.underlying25 rfl Tryd.sizeNode rfl ⟨u, rfl, HLT.out.keep fun b hb hl => ⟨hb, (setRow_other _ _ _ _ (by omega)).trans (HB.out.block b hl)⟩, Below.row HB.out (by omega) _⟩

set_option maxRecDepth 100000 in
set_option maxHeartbeats 2000000 in
theorem kidOf_zero {w : World} {t : T} {S : Nat → Prop} {kv : Value} (hk : KAt 25 w t.kids S kv) {i : Int} (hi : i < 0 ∨ (t.kids.length : Int) ≤ i) :
    Calls Tryd.prog 39 #[NodeV t kv, .int .i64 i] w (KidPost w zeroT S) := by
  obtain ⟨a, c, rfl⟩ : ∃ a c, kv = .slice a t.kids.length c := by
    rcases hk.form with ⟨rfl, hnil⟩ | ⟨g, cap, rfl, _⟩
    · exact ⟨_, _, by rw [hnil]; rfl⟩
    · exact ⟨_, _, rfl⟩
  clear hk
  generalize t.kids.length = n at *
  unfold NodeV
  have hw : ∀ v : Value, KidPost w zeroT S (.returned (.agg zeroNodeCells.toArray)) (((w.alloc (.cells (nodeCells t v).toArray 25)).alloc (.cells zeroNodeCells.toArray 25)).setRow (w.heap.size + 1) zeroNodeCells.toArray) := fun v =>
    ⟨.slice none 0 0, rfl, KAt.nil _ _ _, Below.row (((Below.refl _ _).alloc (Nat.le_refl _) _).alloc (by simp) _) (by omega) _⟩
  have HW := Lib.hid (hw (.slice a n c))
  have HRes := Lib.hid (Blk.new2 w (.cells (nodeCells t (.slice a n c)).toArray 25) zeroNodeCells 25)
  clear hw
  by_cases h0 : i < 0
  · go_enter Tryd.func39, Tryd.ntmps39
    go_wp2_with (first
      | ((with_reducible refine at_st 25 (.tmp 4) ?_); refine wpList_store_blk rfl 25 (.tmp 4) (.tmp 14) rfl (w.heap.size + 1) zeroNodeCells rfl rfl HRes.out Tryd.sizeNode rfl (nodeCells_one zeroT _ rfl) ?_))
    exact ret_blk (cs := zeroNodeCells) Tryd.results39 rfl HRes.out Tryd.underlying25 rfl Tryd.sizeNode rfl HW.out
  · have h1 : (n : Int) ≤ i := by omega
    go_enter Tryd.func39, Tryd.ntmps39
    go_wp2_with (first
      | ((with_reducible refine at_st 25 (.tmp 4) ?_); refine wpList_store_blk rfl 25 (.tmp 4) (.tmp 14) rfl (w.heap.size + 1) zeroNodeCells rfl rfl HRes.out Tryd.sizeNode rfl (nodeCells_one zeroT _ rfl) ?_))
    exact ret_blk (cs := zeroNodeCells) Tryd.results39 rfl HRes.out Tryd.underlying25 rfl Tryd.sizeNode rfl HW.out

theorem kidOf_any {w : World} {t : T} {S : Nat → Prop} {kv : Value} (hk : KAt 25 w t.kids S kv) (i : Nat) :
    Calls Tryd.prog 39 #[NodeV t kv, .int .i64 i] w (KidPost w (kidP t i) S) := by
  rcases Nat.lt_or_ge i t.kids.length with h | h
  · exact kidOf_in hk h
  · rw [kidP_out h]
    exact kidOf_zero hk (.inr (by omega))

def TmV (x : Tm) : Value := .agg #[.string x.name, .int .i64 x.num]
def TmPost (w : World) (x : Tm) (e : Ending) (w' : World) : Prop := e = .returned (TmV x) ∧ Below w.heap.size w w'
set_option maxRecDepth 100000 in
set_option maxHeartbeats 2000000 in
theorem cterm_any (w : World) (t : T) (kv : Value) : Calls Tryd.prog 94 #[NodeV t kv] w (TmPost w (tmOf t)) := by
  have HB := Lib.hid (show Below w.heap.size w ((w.alloc (.cells (nodeCells t kv).toArray 25)).alloc (.cells (tmCells (tmOf t)).toArray 40)) from (((Below.refl _ _).alloc (Nat.le_refl _) _).alloc (by simp) _))
  have HRes := Lib.hid (Blk.new2 w (.cells (nodeCells t kv).toArray 25) (tmCells (tmOf t)) 40)
  unfold NodeV
  go_enter Tryd.func94, Tryd.ntmps94
  go_wp2_with fail
  exact bodyPost_ret (results_blk (cs := tmCells (tmOf t)) Tryd.results94 rfl HRes.out Tryd.underlying40 rfl Tryd.sizeTerm) rfl ⟨rfl, HB.out⟩

set_option maxRecDepth 100000 in
set_option maxHeartbeats 2000000 in
theorem termOf_any {w : World} {t : T} {S : Nat → Prop} {kv : Value} (hk : KAt 25 w t.kids S kv) (i : Nat) :
    Calls Tryd.prog 95 #[NodeV t kv, .int .i64 i] w (TmPost w (tmOf (kidP t i))) := by
  have HK := Lib.hid hk
  have HB := Lib.hid (show Below w.heap.size w ((w.alloc (.cells (nodeCells t kv).toArray 25)).alloc (.cells (tmCells tm0).toArray 40)) from (((Below.refl _ _).alloc (Nat.le_refl _) _).alloc (by simp) _))
  have HRes := Lib.hid (Blk.new2 w (.cells (nodeCells t kv).toArray 25) (tmCells tm0) 40)
  clear hk
  unfold NodeV
  go_enter Tryd.func95, Tryd.ntmps95
  go_wp2_with fail
  refine (kidOf_any ((HK.out.alloc _).alloc _) i).mono ?_
  rintro e w1 ⟨u, rfl, _, hb⟩
  have HB1 := Lib.hid (HB.out.trans (hb.mono HB.out.size))
  have HRes1 := Lib.hid (HRes.out.stays hb)
  clear hb
  unfold NodeV
  go_wp2_with fail
  refine (cterm_any _ _ _).mono ?_
  rintro e w2 ⟨rfl, hb⟩
  have HB2 := Lib.hid (HB1.out.trans (hb.mono HB1.out.size))
  have HRes2 := Lib.hid (HRes1.out.stays hb)
  clear hb
  unfold TmV
  go_wp2_with (first
    | ((with_reducible refine at_st 40 (.tmp 4) ?_); refine wpList_store_blk rfl 40 (.tmp 4) (.tmp 8) rfl (w.heap.size + 1) (tmCells (tmOf (kidP t i))) rfl rfl HRes2.out Tryd.sizeTerm rfl (tmCells_one _) ?_))
  exact ret_blk (cs := tmCells (tmOf (kidP t i))) Tryd.results95 rfl HRes2.out Tryd.underlying40 rfl Tryd.sizeTerm rfl ⟨rfl, Below.row HB2.out (by omega) _⟩

/- branch: a Branch whose To is not known. -/
def InsPost (w : World) (i : Ins) (e : Ending) (w' : World) : Prop := ∃ u, e = .returned (InsV i u) ∧ ArgsAt w' i.args (fun b => w.heap.size ≤ b) u ∧ Below w.heap.size w w'
def ins0 : Ins := insAt 0 0
set_option maxRecDepth 100000 in
set_option maxHeartbeats 2000000 in
theorem branch_any {w : World} {t : T} {S : Nat → Prop} {kv : Value} (hk : KAt 25 w t.kids S kv) :
    Calls Tryd.prog 93 #[NodeV t kv] w (InsPost w (branchI t 0)) := by
  have HB := Lib.hid (show Below w.heap.size w ((w.alloc (.cells (nodeCells t kv).toArray 25)).alloc (.cells (insCells ins0 (.slice none 0 0)).toArray 43)).drew from ((((Below.refl _ _).alloc (Nat.le_refl _) _).alloc (by simp) _)).drew)
  have HN := Lib.hid (show Blk ((w.alloc (.cells (nodeCells t kv).toArray 25)).alloc (.cells (insCells ins0 (.slice none 0 0)).toArray 43)).drew w.heap.size (nodeCells t kv) 25 from ((Blk.new w (nodeCells t kv) 25).alloc _).drew)
  have HRes := Lib.hid (show Blk ((w.alloc (.cells (nodeCells t kv).toArray 25)).alloc (.cells (insCells ins0 (.slice none 0 0)).toArray 43)).drew (w.heap.size + 1) (insCells ins0 (.slice none 0 0)) 43 from (Blk.new2 w (.cells (nodeCells t kv).toArray 25) (insCells ins0 (.slice none 0 0)) 43).drew)
  have HK := Lib.hid (show KAt 25 ((w.alloc (.cells (nodeCells t kv).toArray 25)).alloc (.cells (insCells ins0 (.slice none 0 0)).toArray 43)).drew t.kids S kv from ((hk.alloc _).alloc _).drew)
  clear hk
  unfold NodeV
  go_enter Tryd.func93, Tryd.ntmps93
  go_wp2_with fail
  refine AnyE.begin2 (S := fun W => Blk W w.heap.size (nodeCells t kv) 25) (by kernel_rfl) HN.out (fun hS => ?_)
  refine AnyE.take (i := 0) (v := .pointer (some ⟨w.heap.size, 3, none⟩)) rfl (by kernel_rfl) (by kernel_rfl) (by kernel_rfl) (by kernel_rfl) (fun _ _ _ h => h) (Or.inl ⟨by rfl, fun W _ => by go_simp⟩) hS ?_
  refine AnyE.take (i := 1) (v := .int .i64 t.place) rfl (by kernel_rfl) (by kernel_rfl) (by kernel_rfl) (by kernel_rfl) (fun _ _ _ h => h) (Or.inl ⟨by rfl, fun W hW => by have hcx : W.cell? ⟨w.heap.size, 3, none⟩ = some (.int .i64 t.place) := hW.cell 3; go_simp⟩) hS ?_
  refine AnyE.take (i := 2) (v := .pointer (some ⟨w.heap.size, 1, none⟩)) rfl (by kernel_rfl) (by kernel_rfl) (by kernel_rfl) (by kernel_rfl) (fun _ _ _ h => h) (Or.inl ⟨by rfl, fun W _ => by go_simp⟩) hS ?_
  refine AnyE.take (i := 3) (v := .string t.text) rfl (by kernel_rfl) (by kernel_rfl) (by kernel_rfl) (by kernel_rfl) (fun _ _ _ h => h) (Or.inl ⟨by rfl, fun W hW => by have hcx : W.cell? ⟨w.heap.size, 1, none⟩ = some (.string t.text) := hW.cell 1; go_simp⟩) hS ?_
  refine AnyE.take (i := 4) (v := .agg #[.int .i64 t.kind, .string t.text, .int .i64 t.num, .int .i64 t.place, kv]) rfl (by kernel_rfl) (by kernel_rfl) (by kernel_rfl) (by kernel_rfl) (fun _ _ _ h => h) (yieldsIf_load_mid (cs := nodeCells t kv) (by rfl) 25 (.tmp 1) rfl (w.heap.size) 0 rfl _ (fun W hW j v hj => by rw [Nat.zero_add, hW.cell j]; exact hj) Tryd.underlying25 rfl Tryd.sizeNode) hS ?_
  refine AnyE.take (i := 6) (v := .agg #[.int .i64 t.kind, .string t.text, .int .i64 t.num, .int .i64 t.place, kv]) rfl (by kernel_rfl) (by kernel_rfl) (by kernel_rfl) (by kernel_rfl) (fun _ _ _ h => h) (yieldsIf_load_mid (cs := nodeCells t kv) (by rfl) 25 (.tmp 1) rfl (w.heap.size) 0 rfl _ (fun W hW j v hj => by rw [Nat.zero_add, hW.cell j]; exact hj) Tryd.underlying25 rfl Tryd.sizeNode) hS ?_
  refine AnyE.one (i := 5) (by kernel_rfl) rfl (by rfl) (fun K hK => ?_)
  go_simp
  refine (termOf_any HK.out 0).mono ?_
  rintro e w1 ⟨rfl, hb⟩
  have HB1 := Lib.hid (HB.out.trans (hb.mono HB.out.size))
  have HN1 := Lib.hid (HN.out.stays hb)
  have HRes1 := Lib.hid (HRes.out.stays hb)
  have HK1 := Lib.hid (HK.out.below hb)
  clear hb
  unfold TmV
  refine hK.out _ _ (fun _ => HN1.out) ?_
  clear hK K
  refine AnyE.one (i := 7) (by kernel_rfl) rfl (by rfl) (fun K hK => ?_)
  go_simp
  refine (termOf_any HK1.out 1).mono ?_
  rintro e w2 ⟨rfl, hb⟩
  have HB2 := Lib.hid (HB1.out.trans (hb.mono HB1.out.size))
  have HN2 := Lib.hid (HN1.out.stays hb)
  have HRes2 := Lib.hid (HRes1.out.stays hb)
  clear hb
  unfold TmV
  refine hK.out _ _ (fun _ => HN2.out) ?_
  clear hK K
  refine AnyE.one (i := 8) (by kernel_rfl) rfl (by rfl) (fun K hK => ?_)
  go_simp
  refine hK.out _ _ (fun _ => HN2.out) ?_
  clear hK K
  refine AnyE.one (i := 9) (by kernel_rfl) rfl (by rfl) (fun K hK => ?_)
  refine wp_store_blk 43 (.tmp 2) (.tmp 11) rfl (w.heap.size + 1) (insCells (branchI t 0) (.slice none 0 0)) rfl rfl HRes2.out Tryd.sizeInstr rfl (insCells_one _ _ rfl) ?_
  refine hK.out _ _ (fun h => absurd rfl h) ?_
  clear hK K
  refine AnyE.done (by kernel_rfl) ?_ _
  go_wp2_with fail
  exact ret_blk (cs := insCells (branchI t 0) (.slice none 0 0)) Tryd.results93 rfl HRes2.out Tryd.underlying43 rfl Tryd.sizeInstr rfl ⟨_, rfl, ArgsAt.nil _ _, Below.row HB2.out (by omega) _⟩
end

section
open Go.RowKit

def TmsPost (w : World) (ts : List Tm) (e : Ending) (w' : World) : Prop := ∃ v, e = .returned v ∧ ArgsAt w' ts (fun b => w.heap.size ≤ b) v ∧ Below w.heap.size w w'

theorem flat_get {α : Type} (l : List α) (k : Nat) (hl : l.length = k) (hk : 0 < k) : ∀ (n q : Nat), q < n * k → (List.replicate n l).flatten[q]? = l[q % k]?
  | 0, q, h => by omega
  | n + 1, q, h => by
    rw [List.replicate_succ, List.flatten_cons]
    by_cases hq : q < k
    · rw [List.getElem?_append_left (by omega), Nat.mod_eq_of_lt hq]
    · rw [List.getElem?_append_right (by omega), hl, flat_get l k hl hk n (q - k) (by rw [Nat.succ_mul] at h; omega)]
      congr 1
      exact (Nat.mod_eq_sub_mod (by omega)).symm
theorem made_flat (z : Array Value) (k : Nat) (hz : z.size = k) (hk : 0 < k) (n : Nat) : (madeCells z (n * k)).toList = (List.replicate n z.toList).flatten := by
  subst hz
  apply List.ext_getElem?
  intro q
  by_cases hq : q < n * z.size
  · rw [flat_get z.toList z.size (by simp) hk n q hq]
    have hm : q % z.size < z.size := Nat.mod_lt _ hk
    simp only [madeCells, Array.toList_map, List.getElem?_map, Array.toList_range, List.getElem?_range hq, Option.map_some, Array.getElem?_toList]
    rw [Array.getElem?_eq_getElem hm, getElem!_pos z _ hm]
  · rw [List.getElem?_eq_none (by simp [madeCells]; omega), List.getElem?_eq_none (by simp; omega)]
theorem tmsCells_rep : ∀ n : Nat, tmsCells (List.replicate n tm0) = (List.replicate n (tmCells tm0)).flatten
  | 0 => rfl
  | n + 1 => by rw [List.replicate_succ, List.replicate_succ, List.flatten_cons, tmsCells, tmsCells_rep n]
theorem Tryd.infoTerm : (Tryd.prog.info? 40).map (fun i => (i.zero, i.size, i.bytes)) = some (some (.agg #[.string ⟨#[]⟩, .int .i64 0]), 2, 24) := by kernel_rfl
theorem run_make_terms (n : Nat) (hn : n ≤ 65536) (w : World) :
    (Instr.makeSlice 41 (.int .i64 (n : Int)) (.int .i64 (n : Int))).run Tryd.prog w = .ok (.slice (some ⟨w.heap.size, 0, none⟩) n n) (w.alloc (.cells (tmsCells (List.replicate n tm0)).toArray 40)) := by
  obtain ⟨i, h1, h2, h3, h4⟩ := info_parts Tryd.infoTerm
  have hr := run_make (P := Tryd.prog) w 41 40 i _ Tryd.underlying41 h1 h2 .i64 .i64 n n (by omega) (Int.le_refl _) (by rw [h4]; omega) (by omega)
  simp only [Int.toNat_natCast, h3] at hr
  rw [hr]
  have e2 : madeCells (Value.agg #[.string ⟨#[]⟩, .int .i64 0]).cells (n * 2) = (tmsCells (List.replicate n tm0)).toArray := by
    rw [← Array.toList_inj]
    exact (made_flat #[.string ⟨#[]⟩, .int .i64 0] 2 rfl (by omega) n).trans (by rw [tmsCells_rep]; rfl)
  rw [e2]

theorem tmsCells_set : ∀ (ts : List Tm) (k : Nat) (t : Tm), k < ts.length → ((tmsCells ts).set (k * 2) (.string t.name)).set (k * 2 + 1) (.int .i64 t.num) = tmsCells (ts.set k t)
  | [], k, _, h => by simp at h
  | a :: ts, 0, t, _ => rfl
  | a :: ts, k + 1, t, h => by
    rw [List.set_cons_succ, tmsCells, tmsCells, ← tmsCells_set ts k t (by simpa using h)]
    have e : (k + 1) * 2 - (tmCells a).length = k * 2 := by simp [tmCells]; omega
    have e' : (k + 1) * 2 + 1 - (tmCells a).length = k * 2 + 1 := by simp [tmCells]; omega
    rw [List.set_append_right _ _ (by simp [tmCells]; omega), List.set_append_right _ _ (by simp [tmCells]; omega), e, e']
theorem tmsCells_at : ∀ (ts : List Tm) (k : Nat) (t : Tm) (j : Nat), ts[k]? = some t → j < 2 → (tmsCells ts)[k * 2 + j]? = (tmCells t)[j]?
  | [], k, t, j, h, _ => by simp at h
  | a :: ts, 0, t, j, h, hj => by
    obtain rfl : a = t := by simpa using h
    rw [tmsCells, Nat.zero_mul, Nat.zero_add, List.getElem?_append_left (by simpa [tmCells] using hj)]
  | a :: ts, k + 1, t, j, h, hj => by
    rw [tmsCells, List.getElem?_append_right (by simp [tmCells]; omega)]
    have e : (k + 1) * 2 + j - (tmCells a).length = k * 2 + j := by simp [tmCells]; omega
    rw [e]
    exact tmsCells_at ts k t j (by simpa using h) hj
/- The first k terms are told, the others not yet. -/
def partT (ts : List Tm) (k : Nat) : List Tm := ts.take k ++ List.replicate (ts.length - k) tm0
theorem partT_zero (ts : List Tm) : partT ts 0 = List.replicate ts.length tm0 := by simp [partT]
theorem partT_all (ts : List Tm) {k : Nat} (h : ts.length ≤ k) : partT ts k = ts := by simp [partT, List.take_of_length_le h, show ts.length - k = 0 by omega]
theorem partT_len (ts : List Tm) {k : Nat} (hk : k ≤ ts.length) : (partT ts k).length = ts.length := by simp [partT]; omega
theorem partT_set {ts : List Tm} {k : Nat} {t : Tm} (h : ts[k]? = some t) : (partT ts k).set k t = partT ts (k + 1) := by
  obtain ⟨hk, e⟩ := List.getElem?_eq_some_iff.1 h
  unfold partT
  rw [List.set_append_right _ _ (by simp; omega), List.length_take, show k - min k ts.length = 0 by omega, show ts.length - k = (ts.length - (k + 1)) + 1 by omega, List.replicate_succ, List.set_cons_zero, List.take_succ_eq_append_getElem hk, e, List.append_assoc]
  rfl
theorem partT_get {ts : List Tm} {k : Nat} (h : k < ts.length) : (partT ts k)[k]? = some tm0 := by
  unfold partT
  rw [List.getElem?_append_right (by simp; omega), List.length_take, show k - min k ts.length = 0 by omega, show ts.length - k = (ts.length - (k + 1)) + 1 by omega, List.replicate_succ]
  rfl
theorem terms_done {w W : World} {ts : List Tm} {g : Nat} (h : Blk W g (tmsCells ts) 40) (hg : w.heap.size ≤ g) (hl : ts.length ≤ 65536) : ArgsAt W ts (fun b => w.heap.size ≤ b) (.slice (some ⟨g, 0, none⟩) ts.length ts.length) := by
  refine ⟨⟨tmsCells_length ts, .inr ⟨g, ts.length, _, rfl, Nat.zero_le _, h, Nat.le_refl _, by unfold maxLen; omega, by simp [tmsCells_length], ?_⟩⟩, fun b hb => ?_⟩
  · rw [List.take_of_length_le (by rw [tmsCells_length]; omega)]
  · simp only [Value.ownBlock, Option.some.injEq] at hb
    omega

def TmsRel (w : World) (t : T) (g : Nat) (gh : Nat) (i : Value) (wr : World) : Prop :=
  ∃ k : Nat, k ≤ t.kids.length ∧ t.kids.length ≤ k + gh ∧ i = .int .i64 k ∧ Blk wr g (tmsCells (partT (tmsOf t) k)) 40 ∧ Below w.heap.size w wr

set_option maxRecDepth 100000 in
set_option maxHeartbeats 2000000 in
theorem termsOf_any {w : World} {t : T} {S : Nat → Prop} {kv : Value} (hk : KAt 25 w t.kids S kv) (hl : t.kids.length ≤ 50000) :
    Calls Tryd.prog 96 #[NodeV t kv] w (TmsPost w (tmsOf t)) := by
  have htl : (tmsOf t).length = t.kids.length := by unfold tmsOf; simp
  have HTL := Lib.hid htl
  have hmk := run_make_terms t.kids.length (by omega)
  have HST := Lib.hid (show TmsRel w t (w.heap.size + 1) t.kids.length (.int .i64 0) ((w.alloc (.cells (nodeCells t kv).toArray 25)).alloc (.cells (tmsCells (List.replicate t.kids.length tm0)).toArray 40)) from
    ⟨0, by omega, by omega, rfl, by rw [partT_zero, htl]; exact Blk.new2 w _ _ _, ((Below.refl _ _).alloc (Nat.le_refl _) _).alloc (by simp) _⟩)
  rcases hk.form with ⟨rfl, hnil⟩ | ⟨g, cap, rfl, hg, hcap, hcm, hget⟩
  · have hn : t.kids.length = 0 := by rw [hnil]; rfl
    have hmk0 : ∀ w : World, (Instr.makeSlice 41 (.int .i64 0) (.int .i64 0)).run Tryd.prog w = .ok (.slice (some ⟨w.heap.size, 0, none⟩) 0 0) (w.alloc (.cells #[] 40)) := run_make_terms 0 (by omega)
    have HE := Lib.hid (show TmsPost w (tmsOf t) (.returned (.slice (some ⟨w.heap.size + 1, 0, none⟩) 0 0)) ((w.alloc (.cells (nodeCells t (.slice none 0 0)).toArray 25)).alloc (.cells #[] 40)) from by
      have h0 : tmsOf t = [] := by unfold tmsOf; rw [hnil]; rfl
      rw [h0]
      exact ⟨_, rfl, terms_done (ts := []) (Blk.new2 w _ [] _) (by omega) (by simp), ((Below.refl _ _).alloc (Nat.le_refl _) _).alloc (by simp) _⟩)
    clear hmk HST
    unfold NodeV
    clear hk hnil htl HTL hl
    go_enter Tryd.func96, Tryd.ntmps96
    go_wp2
    clear hmk0
    refine wp_loop_rounds 1 ?_
    rw [rounds_succ]
    go_wp2_with fail
    go_ret
    exact HE.out
  · have HG := Lib.hid hget
    have HCAP := Lib.hid hcap
    have HHG := Lib.hid hg
    clear hk hget hcap hg htl
    unfold maxLen at hcm
    unfold NodeV
    go_enter Tryd.func96, Tryd.ntmps96
    go_wp2
    clear hmk
    go_loopg [13] t.kids.length (fun gh i wr => TmsRel w t (w.heap.size + 1) gh i wr)
    case atStart => exact HST.out
    case round =>
      obtain ⟨k, hk, hgk, rfl, hrow, hb⟩ := hrel
      by_cases hlt : k < t.kids.length
      · obtain ⟨u, hr, hT⟩ := HG.out k t.kids[k] (List.getElem?_eq_getElem hlt)
        have hne := List.getElem?_eq_getElem hlt
        have htm : (tmsOf t)[k]? = some (tmOf t.kids[k]) := by unfold tmsOf; simp [hlt]
        generalize t.kids[k] = tk at hr hT hne htm
        have HB := Lib.hid hb
        have HR := Lib.hid (rangeAt_below hr (hb.mono (Nat.le_refl _)) HHG.out)
        have HRow := Lib.hid hrow
        have HTM := Lib.hid htm
        have HOne := Lib.hid hT.kat.one
        have hcap := HCAP.out
        have hsz := hrow.lt
        have HKB := Lib.hid (Blk.new wr (nodeCells tk u) 25)
        clear hr hT hne hrow hb
        go_wp2_with (first
          | ((with_reducible refine at_ld 25 (.tmp 16) ?_); refine wpList_load_mid rfl 25 (.tmp 16) rfl g (k * 5) rfl (nodeCells tk u) _ HR.out Tryd.underlying25 rfl Tryd.sizeNode ?_)
          | ((with_reducible refine at_st 25 (.tmp 5) ?_); refine wpList_store_new rfl 25 (.tmp 5) (.tmp 17) rfl (nodeCells tk u) (old := zeroNodeCells) rfl rfl Tryd.sizeNode rfl (nodeCells_one _ _ HOne.out) ?_)
          | ((with_reducible refine at_ld 25 (.tmp 5) ?_); refine wpList_load_blk rfl 25 (.tmp 5) rfl (wr.heap.size) (nodeCells tk u) rfl HKB.out Tryd.underlying25 rfl Tryd.sizeNode ?_))
        refine (cterm_any _ tk u).mono ?_
        rintro e w1 ⟨rfl, hb1⟩
        have hrow1 := (HRow.out.alloc (.cells (nodeCells tk u).toArray 25)).stays hb1
        have HR1 := Lib.hid hrow1
        have HB1 := Lib.hid ((HB.out.alloc HB.out.size (.cells (nodeCells tk u).toArray 25)).trans (hb1.mono (by have := HB.out.size; simp; omega)))
        have hlt2 : k < (tmsOf t).length := by rw [HTL.out]; exact hlt
        have y0 := hrow1.cell (k * 2 + 0)
        have y1 := hrow1.cell (k * 2 + 1)
        rw [tmsCells_at _ _ tm0 _ (partT_get hlt2) (by omega)] at y0 y1
        simp only [tmCells, tm0, List.getElem?_cons_zero, List.getElem?_cons_succ, Nat.add_zero] at y0 y1
        have q0 := hrow1.frozen (k * 2)
        have q1 := hrow1.frozen (k * 2 + 1)
        have hsz1 := hrow1.lt
        clear hrow1 hb1
        unfold TmV
        go_wp2_with fail
        go_roundg (gk - 1)
        case measure => omega
        case rel =>
          refine ⟨k + 1, by omega, by omega, by go_num, ?_, ?_⟩
          · have h2 := (HR1.out.setSame (k * 2) (.string (tmOf tk).name)).setSame (k * 2 + 1) (.int .i64 (tmOf tk).num)
            rw [tmsCells_set _ _ (tmOf tk) (by rw [partT_len _ (by omega)]; exact hlt2), partT_set HTM.out] at h2
            exact h2
          · exact (HB1.out.setCell (by show w.heap.size ≤ w.heap.size + 1; omega) _).setCell (by show w.heap.size ≤ w.heap.size + 1; omega) _
      · have hE : Blk wr (w.heap.size + 1) (tmsCells (tmsOf t)) 40 := by have := hrow; rwa [partT_all _ (by rw [HTL.out]; omega)] at this
        have HE := Lib.hid (terms_done (w := w) hE (by omega) (by rw [HTL.out]; omega))
        have HB := Lib.hid hb
        clear hrow hb hE
        go_wp2_with fail
        go_ret
        have h := HE.out
        rw [HTL.out] at h
        exact ⟨_, rfl, h, HB.out⟩
end

end Go.Proofs.YtnmpfpnldcgbaaaDoor
