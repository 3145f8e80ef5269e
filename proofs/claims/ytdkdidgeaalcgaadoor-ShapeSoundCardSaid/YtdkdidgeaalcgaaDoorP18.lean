/- Towards the contract of syntax.Parse in a world that holds the tables of lex: it answers what the plain reader does, in new memory, and changes nothing that was there. syntax.Parse where the tokens have a fault. syntax.Parse where the tokens are read. The contract of syntax.Parse in a world that holds the tables of lex: it answers what the plain reader does, in new memory, and changes nothing that was there. -/
import Derived.Test.YtdkdidgeaalcgaaDoorP16
import Derived.Test.YtdkdidgeaalcgaaDoorP17
namespace Go.Proofs.YtdkdidgeaalcgaaDoor
open Go.RowKit

theorem tokAt_good {s : ByteArray} {k : Nat} {t : Tok} (h : tokAt s k = .ok t) : t.kind ≠ 0 ∧ t.num ≤ 1099511627776 ∧ t.place = k := by
  have hs : ∀ n, signFrom s k n = .ok t → t.kind ≠ 0 ∧ t.num ≤ 1099511627776 ∧ t.place = k := by
    intro n
    induction n with
    | zero =>
      unfold signFrom signEnd
      split
      · intro h; cases h; exact ⟨by simp, by simp, rfl⟩
      · intro h; cases h
    | succ n ih =>
      unfold signFrom
      split
      · intro h; cases h; exact ⟨by simp, by simp, rfl⟩
      · exact ih
  unfold tokAt at h
  split at h
  · unfold wordTok at h
    split at h
    · cases h
    · split at h <;> cases h <;> exact ⟨by simp, by simp, rfl⟩
  · split at h
    · unfold numTok at h
      split at h
      · cases h
      · rename_i hc
        cases h
        exact ⟨by simp, by simp only; omega, rfl⟩
    · exact hs 3 h

/- What lex makes is what the parser asks of its tokens. -/
theorem lexFrom_good {s : ByteArray} (hs : s.size ≤ 16384) : ∀ k, k ≤ s.size → ∀ ts, lexFrom s k = .ok ts → Ends ts ∧ (∀ t ∈ ts, TokOK t) ∧ ts.length + k ≤ s.size + 1 := by
  apply lex_ind (P := fun k r => k ≤ s.size → ∀ ts, r = .ok ts → Ends ts ∧ (∀ t ∈ ts, TokOK t) ∧ ts.length + k ≤ s.size + 1)
  · intro k _ hk ts h
    cases h
    refine ⟨.inl ⟨rfl, rfl, rfl⟩, fun t ht => ?_, by simp; omega⟩
    obtain rfl : t = endTok s := by simpa using ht
    exact ⟨by simp [endTok], hs, by show (0 : Nat) ≤ _; omega⟩
  · intro k hk _ ih _ ts h
    obtain ⟨h1, h2, h3⟩ := ih (by omega) ts h
    exact ⟨h1, h2, by omega⟩
  · intro k hk hb ih _ ts h
    have hg := remark_gt hk hb
    obtain ⟨h1, h2, h3⟩ := ih (endOf_le isRI s k (by omega)) ts h
    exact ⟨h1, h2, by omega⟩
  · intro k e _ _ _ _ _ ts h; cases h
  · intro k t hk _ _ ht ih _ ts h
    have hz := tokAt_size hk ht
    have hg := tokAt_good ht
    cases hr : lexFrom s (k + t.text.size) with
    | error e => rw [hr] at h; cases h
    | ok ts' =>
      rw [hr] at h
      cases h
      obtain ⟨h1, h2, h3⟩ := ih hz.2 ts' hr
      refine ⟨.inr ⟨hg.1, h1⟩, fun u hu => ?_, by simp; omega⟩
      rcases List.mem_cons.1 hu with rfl | hu
      · exact ⟨hg.2.1, by rw [hg.2.2]; omega, by omega⟩
      · exact h2 u hu
theorem lexAll_good {s : ByteArray} {ts : List Tok} (h : lexAll s = .ok ts) : Ends ts ∧ (∀ t ∈ ts, TokOK t) ∧ ts.length ≤ 16385 := by
  unfold lexAll at h
  split at h
  · cases h
  · obtain ⟨h1, h2, h3⟩ := lexFrom_good (by omega) 0 (by omega) ts h
    exact ⟨h1, h2, by omega⟩
theorem lexAll_code {s : ByteArray} {p : Nat} {c : Int} (h : lexAll s = .error (p, c)) : 10 ≤ c ∧ c ≤ 13 := by
  unfold lexAll at h
  split at h
  · cases h; decide
  · obtain ⟨_, _, _, _, h1⟩ := lex_fault 0 h
    have := tokAt_err h1
    omega

def ParsePost (r : T × Nat × Int) (w : World) (e : Ending) (w' : World) : Prop :=
  ∃ kv, e = .returned (.tuple #[NodeV r.1 kv, .int .i64 r.2.1, .int .i64 r.2.2]) ∧ KAt 39 w' r.1.kids (fun b => w.heap.size ≤ b) kv ∧ Below w.heap.size w w'

theorem ret_blk3 {P : Program} {fn : Func} {s u z : Tmp} {ty t : TypeId} (h : fn.results = #[.cell s ty, .tmp u, .tmp z]) {a : Act} {W : World} {g : Nat} {cs : List Value} {d : TypeDesc} {R : Ending → World → Prop} {x y : Value} (hs : a.tmps.getD s undef = .pointer (some ⟨g, 0, none⟩))
    (hb : Blk W g cs t) (hu : P.underlying ty = some d) (hd : d.isRow = true) (hi : (P.info? ty).map (·.size) = some cs.length) (hx : a.tmps.getD u undef = x) (hy : a.tmps.getD z undef = y) (hdf : a.defers = []) (hR : R (.returned (.tuple #[.agg cs.toArray, x, y])) W) :
    bodyPost P fn R .ret a W := by
  refine bodyPost_ret ?_ hdf hR
  have hl := run_loadVar_mid (P := P) W g 0 ty cs d (fun j v hj => by rw [Nat.zero_add, hb.cell j]; exact hj) hu hd hi
  have hs' : a.tmps[s]?.getD undef = .pointer (some ⟨g, 0, none⟩) := by rw [← hs]; simp
  have hx' : a.tmps[u]?.getD undef = x := by rw [← hx]; simp
  have hy' : a.tmps[z]?.getD undef = y := by rw [← hy]; simp
  simp [results, h, hs', asAddr, hl, hx', hy']

theorem below_setRow {B : Nat} {w W : World} (hb : Below B w W) {g : Nat} (hg : B ≤ g) (cs : Array Value) : Below B w (W.setRow g cs) :=
  ⟨hb.os, hb.tape, hb.output, by simpa using hb.size, fun k hk => (setRow_other W g k cs (by omega)).trans (hb.block k hk)⟩

theorem NodeV_cells (t : T) (v : Value) : NodeV t v = .agg (nodeCells t v).toArray := rfl

set_option maxRecDepth 100000 in
set_option maxHeartbeats 2000000 in
theorem parse_lex (s : ByteArray) (w : World) (hs : s.size ≤ maxLen) (ht : Tabs w) {p : Nat} {c : Int} (hr : lexAll s = .error (p, c)) :
    Calls Tryd.prog 12 #[.string s] w (ParsePost (parseB s) w) := by
  have HTA := Lib.hid (ht.alloc (o := .cells zeroNodeCells.toArray 39))
  have HS := Lib.hid hs
  clear ht hs
  go_enter Tryd.func12, Tryd.ntmps12
  go_wp2_with fail
  refine (tokens_any s _ HS.out HTA.out).mono ?_
  intro e w1 hp
  rw [hr] at hp
  obtain ⟨rfl, hb⟩ := hp
  have hcd := lexAll_code hr
  have hne : (c != 0) = true := by rw [bne_iff_ne]; omega
  have HP := Lib.hid (show parseB s = (zeroT, p, c) by unfold parseB; rw [hr])
  have HB := Lib.hid ((Blk.new w zeroNodeCells 39).kp (Kp.of_below (pb := w.heap.size + 1) hb) (by omega))
  have HW := Lib.hid (((Below.refl w.heap.size w).alloc (Nat.le_refl _) _).trans (hb.mono (by simp)))
  clear hb hr hcd
  go_wp2_with ((with_reducible refine at_st 39 (.tmp 2) ?_); refine wpList_store_blk rfl 39 (.tmp 2) (.tmp 18) rfl w.heap.size (nodeCells zeroT (.slice none 0 0)) rfl rfl HB.out Tryd.sizeNode rfl (nodeCells_one _ _ rfl) ?_)
  refine ret_blk3 (cs := nodeCells zeroT (.slice none 0 0)) Tryd.results12 rfl (HB.out.rowSame _) Tryd.underlying39 rfl Tryd.sizeNode rfl rfl rfl ?_
  rw [HP.out]
  exact ⟨.slice none 0 0, rfl, KAt.nil _ _ _, below_setRow HW.out (Nat.le_refl _) _⟩

theorem at_world1 {P : Program} {ops : Array Oper} {Q : Exit → Act → World → Prop} {l : List Oper} {a : Act} (W : World) (h : wpList P ops Q l a W) : wpList P ops Q l a W := h

set_option maxRecDepth 100000 in
set_option maxHeartbeats 2000000 in
theorem parse_err (s : ByteArray) (w : World) (hs : s.size ≤ maxLen) (ht : Tabs w) {ts : List Tok} {p : Nat} {c : Int} (hr : lexAll s = .ok ts) (hu : unitP ts = .error (p, c)) :
    Calls Tryd.prog 12 #[.string s] w (ParsePost (parseB s) w) := by
  have HTA := Lib.hid (ht.alloc (o := .cells zeroNodeCells.toArray 39))
  have HS := Lib.hid hs
  clear ht hs
  go_enter Tryd.func12, Tryd.ntmps12
  go_wp2_with fail
  refine (tokens_any s _ HS.out HTA.out).mono ?_
  intro e w1 hp
  rw [hr] at hp
  obtain ⟨v, rfl, hown, hb⟩ := hp
  obtain ⟨hE, hok, hlen⟩ := lexAll_good hr
  have hn : 0 < ts.length := by obtain ⟨t, r, rfl⟩ := hE.ne; simp
  obtain ⟨g, cap, rfl, hg1, hg2, hcap, hrow⟩ := row_of_own hown hn
  have HTK := Lib.hid (show Toks w1 g cap ts from ⟨hrow, hg2, hE, hok, hlen, hcap⟩)
  have HB := Lib.hid ((Blk.new w zeroNodeCells 39).kp (Kp.of_below (pb := w.heap.size + 1) hb) (by omega))
  have HW := Lib.hid (((Below.refl w.heap.size w).alloc (Nat.le_refl _) _).trans (hb.mono (by simp)))
  have HPB := Lib.hid (show parseB s = parseToks ts by unfold parseB; rw [hr])
  have HLEN := Lib.hid hlen
  clear hb hr hE hok hlen hn hown hrow hg1 hg2 hcap
  go_wp2_with fail
  refine (read_any HTK.out).mono ?_
  intro e w2 hp
  rw [hu] at hp
  obtain ⟨rfl, hb, hcd⟩ := hp
  have hne : (c != 0) = true := by rw [bne_iff_ne]; omega
  have HP := Lib.hid (show parseB s = (zeroT, p, c) by rw [HPB.out]; unfold parseToks; rw [hu])
  have HB2 := Lib.hid (HB.out.kp (Kp.of_below (pb := w.heap.size + 1) hb) (by omega))
  have HW2 := Lib.hid (HW.out.trans (hb.mono HW.out.size))
  have hz2 := HB2.out.lt
  clear hb hu hcd
  have HT := Lib.hid ((KAt.nil 39 w2 (fun b => w.heap.size < b ∧ b < w2.heap.size)).tat 0 e0 0 0)
  unfold NodeV
  go_wp2_with (first
    | ((with_reducible refine at_st 39 (.tmp 8) ?_); refine wpList_store_blk rfl 39 (.tmp 8) (.tmp 24) rfl w2.heap.size (nodeCells (zeroT) (.slice none 0 0)) rfl rfl ((Blk.new w2 zeroNodeCells 39).alloc _) Tryd.sizeNode rfl (nodeCells_one _ _ rfl) ?_)
    | ((with_reducible refine at_st 60 (.tmp 9) ?_); refine wpList_store_blk rfl 60 (.tmp 9) (.tmp 25) rfl (w2.heap.size + 1) [.int .i64 p, .int .i64 c] rfl rfl ((Blk.new2 w2 (.cells zeroNodeCells.toArray 39) [.int .i64 0, .int .i64 0] 60).rowOther w2.heap.size _ (by omega)) Tryd.sizeFault rfl (by simp [Value.oneCell']) ?_;
       have HBy := Lib.hid ((((HB2.out.alloc (.cells zeroNodeCells.toArray 39)).alloc (.cells #[.int .i64 0, .int .i64 0] 60)).rowOther w2.heap.size (nodeCells (zeroT) (.slice none 0 0)).toArray (by omega)).rowOther (w2.heap.size + 1) ([.int .i64 p, .int .i64 c]).toArray (by omega));
       have HNy := Lib.hid ((((Blk.new w2 zeroNodeCells 39).alloc (.cells #[.int .i64 0, .int .i64 0] 60)).rowSame (nodeCells (zeroT) (.slice none 0 0))).rowOther (w2.heap.size + 1) ([.int .i64 p, .int .i64 c]).toArray (by omega));
       have HFy := Lib.hid (((Blk.new2 w2 (.cells zeroNodeCells.toArray 39) [.int .i64 0, .int .i64 0] 60).rowOther w2.heap.size (nodeCells (zeroT) (.slice none 0 0)).toArray (by omega)).rowSame [.int .i64 p, .int .i64 c]);
       have HWy := Lib.hid (below_setRow (g := w2.heap.size + 1) (below_setRow (g := w2.heap.size) ((HW2.out.alloc HW2.out.size (.cells zeroNodeCells.toArray 39)).alloc (by simp; omega) (.cells #[.int .i64 0, .int .i64 0] 60)) (by omega) (nodeCells (zeroT) (.slice none 0 0)).toArray) (by omega) ([.int .i64 p, .int .i64 c]).toArray);
       have HTy : Hid (TAt 39 _ (zeroT) (fun b => w.heap.size < b ∧ b < w2.heap.size) (.slice none 0 0)) := ((((HT.out.alloc (.cells zeroNodeCells.toArray 39)).alloc (.cells #[.int .i64 0, .int .i64 0] 60)).setRow w2.heap.size (nodeCells (zeroT) (.slice none 0 0)).toArray (fun b hb => by omega)).setRow (w2.heap.size + 1) ([.int .i64 p, .int .i64 c]).toArray (fun b hb => by omega));
       refine at_world1 ((((w2.alloc (.cells zeroNodeCells.toArray 39)).alloc (.cells #[.int .i64 0, .int .i64 0] 60)).setRow w2.heap.size (nodeCells (zeroT) (.slice none 0 0)).toArray).setRow (w2.heap.size + 1) ([.int .i64 p, .int .i64 c]).toArray) ?_; generalize (((w2.alloc (.cells zeroNodeCells.toArray 39)).alloc (.cells #[.int .i64 0, .int .i64 0] 60)).setRow w2.heap.size (nodeCells (zeroT) (.slice none 0 0)).toArray).setRow (w2.heap.size + 1) ([.int .i64 p, .int .i64 c]).toArray = wy at HBy HNy HFy HWy HTy ⊢;
       have hcF : wy.cell? ⟨w2.heap.size + 1, 1, none⟩ = some (.int .i64 c) := HFy.out.cell 1; have hzy := HFy.out.lt))
  refine AnyE.begin2 (S := fun W => Blk W (w2.heap.size + 1) [.int .i64 p, .int .i64 c] 60) (by kernel_rfl) HFy.out.drew (fun hS => ?_)
  refine AnyE.take (i := 1) (v := .pointer (some ⟨w2.heap.size + 1, 0, none⟩)) rfl (by kernel_rfl) (by kernel_rfl) (by kernel_rfl) (by kernel_rfl) (fun _ _ _ h => h) (Or.inl ⟨by rfl, fun W _ => by go_simp⟩) hS ?_
  refine AnyE.take (i := 2) (v := .int .i64 p) rfl (by kernel_rfl) (by kernel_rfl) (by kernel_rfl) (by kernel_rfl) (fun _ _ _ h => h) (Or.inl ⟨by rfl, fun W hW => by have hcx : W.cell? ⟨w2.heap.size + 1, 0, none⟩ = some (.int .i64 p) := hW.cell 0; go_simp⟩) hS ?_
  refine AnyE.take (i := 3) (v := .pointer (some ⟨w2.heap.size + 1, 1, none⟩)) rfl (by kernel_rfl) (by kernel_rfl) (by kernel_rfl) (by kernel_rfl) (fun _ _ _ h => h) (Or.inl ⟨by rfl, fun W _ => by go_simp⟩) hS ?_
  refine AnyE.take (i := 4) (v := .int .i64 c) rfl (by kernel_rfl) (by kernel_rfl) (by kernel_rfl) (by kernel_rfl) (fun _ _ _ h => h) (Or.inl ⟨by rfl, fun W hW => by have hcx : W.cell? ⟨w2.heap.size + 1, 1, none⟩ = some (.int .i64 c) := hW.cell 1; go_simp⟩) hS ?_
  refine AnyE.one (i := 0) (by kernel_rfl) rfl (by rfl) (fun K hK => ?_)
  go_simp
  refine hK.out _ _ (fun _ => HFy.out.drew) ?_
  clear hK K
  refine AnyE.one (i := 5) (by kernel_rfl) rfl (by rfl) (fun K hK => ?_)
  refine wp_store_blk 39 (.tmp 2) (.tmp 30) rfl w.heap.size (nodeCells zeroT (.slice none 0 0)) rfl rfl HBy.out.drew Tryd.sizeNode rfl (nodeCells_one _ _ rfl) ?_
  refine hK.out _ _ (fun _ => HFy.out.drew.rowOther w.heap.size _ (by omega)) ?_
  clear hK K
  refine AnyE.one (i := 6) (by kernel_rfl) rfl (by rfl) (fun K hK => ?_)
  go_simp
  refine hK.out _ _ (fun _ => HFy.out.drew.rowOther w.heap.size _ (by omega)) ?_
  clear hK K
  refine AnyE.one (i := 7) (by kernel_rfl) rfl (by rfl) (fun K hK => ?_)
  go_simp
  refine hK.out _ _ (fun h => absurd rfl h) ?_
  clear hK K
  refine AnyE.done (by kernel_rfl) ?_ _
  go_wp2
  refine ret_blk3 (cs := nodeCells zeroT (.slice none 0 0)) Tryd.results12 rfl (HBy.out.drew.rowSame _) Tryd.underlying39 rfl Tryd.sizeNode rfl rfl rfl ?_
  rw [HP.out]
  exact ⟨.slice none 0 0, rfl, KAt.nil _ _ _, below_setRow HWy.out.drew (Nat.le_refl _) _⟩

/- The world spelled otherwise. -/
theorem at_world {P : Program} {ops : Array Oper} {Q : Exit → Act → World → Prop} {l : List Oper} {a : Act} (W : World) (h : wpList P ops Q l a W) : wpList P ops Q l a W := h

set_option maxRecDepth 100000 in
set_option maxHeartbeats 2000000 in
theorem parse_ok (s : ByteArray) (w : World) (hs : s.size ≤ maxLen) (ht : Tabs w) {ts l' : List Tok} {t : T} (hr : lexAll s = .ok ts) (hu : unitP ts = .ok (t, l')) :
    Calls Tryd.prog 12 #[.string s] w (ParsePost (parseB s) w) := by
  have HTA := Lib.hid (ht.alloc (o := .cells zeroNodeCells.toArray 39))
  have HS := Lib.hid hs
  clear ht hs
  go_enter Tryd.func12, Tryd.ntmps12
  go_wp2_with fail
  refine (tokens_any s _ HS.out HTA.out).mono ?_
  intro e w1 hp
  rw [hr] at hp
  obtain ⟨v, rfl, hown, hb⟩ := hp
  obtain ⟨hE, hok, hlen⟩ := lexAll_good hr
  have hn : 0 < ts.length := by obtain ⟨t, r, rfl⟩ := hE.ne; simp
  obtain ⟨g, cap, rfl, hg1, hg2, hcap, hrow⟩ := row_of_own hown hn
  have HTK := Lib.hid (show Toks w1 g cap ts from ⟨hrow, hg2, hE, hok, hlen, hcap⟩)
  have HB := Lib.hid ((Blk.new w zeroNodeCells 39).kp (Kp.of_below (pb := w.heap.size + 1) hb) (by omega))
  have HW := Lib.hid (((Below.refl w.heap.size w).alloc (Nat.le_refl _) _).trans (hb.mono (by simp)))
  have HPB := Lib.hid (show parseB s = parseToks ts by unfold parseB; rw [hr])
  have HLEN := Lib.hid hlen
  clear hb hr hE hok hlen hn hown hrow hg1 hg2 hcap
  go_wp2_with fail
  refine (read_any HTK.out).mono ?_
  intro e w2 hp
  rw [hu] at hp
  obtain ⟨kv, rfl, hT, hb⟩ := hp
  have hsz := unit_sz hu
  have hsz2 : t.size ≤ 1000000 := by have := HLEN.out; omega
  have HB2 := Lib.hid (HB.out.kp (Kp.of_below (pb := w.heap.size + 1) hb) (by omega))
  have HW2 := Lib.hid (HW.out.trans (hb.mono HW.out.size))
  have hz2 := HB2.out.lt
  have hz1 := HB.out.lt
  have HT := Lib.hid (hT.mono (S' := fun b => w.heap.size < b ∧ b < w2.heap.size) (fun b hb hl => ⟨by omega, hl⟩))
  have HP0 := Lib.hid (show parseB s = if 4096 < t.size then (zeroT, 0, 22) else (t, 0, 0) by rw [HPB.out]; unfold parseToks; rw [hu])
  clear hb hu hT hsz
  unfold NodeV
  go_wp2_with (first
    | ((with_reducible refine at_st 39 (.tmp 8) ?_); refine wpList_store_blk rfl 39 (.tmp 8) (.tmp 24) rfl w2.heap.size (nodeCells (t) (kv)) rfl rfl ((Blk.new w2 zeroNodeCells 39).alloc _) Tryd.sizeNode rfl (nodeCells_one _ _ HT.out.kat.one) ?_)
    | ((with_reducible refine at_st 60 (.tmp 9) ?_); refine wpList_store_blk rfl 60 (.tmp 9) (.tmp 25) rfl (w2.heap.size + 1) [.int .i64 0, .int .i64 0] rfl rfl ((Blk.new2 w2 (.cells zeroNodeCells.toArray 39) [.int .i64 0, .int .i64 0] 60).rowOther w2.heap.size _ (by omega)) Tryd.sizeFault rfl (by simp [Value.oneCell']) ?_;
       have HBy := Lib.hid ((((HB2.out.alloc (.cells zeroNodeCells.toArray 39)).alloc (.cells #[.int .i64 0, .int .i64 0] 60)).rowOther w2.heap.size (nodeCells (t) (kv)).toArray (by omega)).rowOther (w2.heap.size + 1) ([.int .i64 0, .int .i64 0]).toArray (by omega));
       have HNy := Lib.hid ((((Blk.new w2 zeroNodeCells 39).alloc (.cells #[.int .i64 0, .int .i64 0] 60)).rowSame (nodeCells (t) (kv))).rowOther (w2.heap.size + 1) ([.int .i64 0, .int .i64 0]).toArray (by omega));
       have HFy := Lib.hid (((Blk.new2 w2 (.cells zeroNodeCells.toArray 39) [.int .i64 0, .int .i64 0] 60).rowOther w2.heap.size (nodeCells (t) (kv)).toArray (by omega)).rowSame [.int .i64 0, .int .i64 0]);
       have HWy := Lib.hid (below_setRow (g := w2.heap.size + 1) (below_setRow (g := w2.heap.size) ((HW2.out.alloc HW2.out.size (.cells zeroNodeCells.toArray 39)).alloc (by simp; omega) (.cells #[.int .i64 0, .int .i64 0] 60)) (by omega) (nodeCells (t) (kv)).toArray) (by omega) ([.int .i64 0, .int .i64 0]).toArray);
       have HTy : Hid (TAt 39 _ (t) (fun b => w.heap.size < b ∧ b < w2.heap.size) (kv)) := ((((HT.out.alloc (.cells zeroNodeCells.toArray 39)).alloc (.cells #[.int .i64 0, .int .i64 0] 60)).setRow w2.heap.size (nodeCells (t) (kv)).toArray (fun b hb => by omega)).setRow (w2.heap.size + 1) ([.int .i64 0, .int .i64 0]).toArray (fun b hb => by omega));
       refine at_world ((((w2.alloc (.cells zeroNodeCells.toArray 39)).alloc (.cells #[.int .i64 0, .int .i64 0] 60)).setRow w2.heap.size (nodeCells (t) (kv)).toArray).setRow (w2.heap.size + 1) ([.int .i64 0, .int .i64 0]).toArray) ?_; generalize (((w2.alloc (.cells zeroNodeCells.toArray 39)).alloc (.cells #[.int .i64 0, .int .i64 0] 60)).setRow w2.heap.size (nodeCells (t) (kv)).toArray).setRow (w2.heap.size + 1) ([.int .i64 0, .int .i64 0]).toArray = wy at HBy HNy HFy HWy HTy ⊢;
       have hcF : wy.cell? ⟨w2.heap.size + 1, 1, none⟩ = some (.int .i64 0) := HFy.out.cell 1; have hzy := HFy.out.lt)
    | ((with_reducible refine at_ld 39 (.tmp 8) ?_); refine wpList_load_blk rfl 39 (.tmp 8) rfl w2.heap.size (nodeCells t kv) rfl HNy.out Tryd.underlying39 rfl Tryd.sizeNode ?_))
  refine (size_any t.size t (Nat.le_refl _) HTy.out.kat hsz2).mono ?_
  rintro e w3 ⟨rfl, hb3⟩
  have HB3 := Lib.hid (HBy.out.kp (Kp.of_below (pb := w3.heap.size) hb3) (by have := HBy.out.lt; have := hb3.size; omega))
  have HN3 := Lib.hid (HNy.out.kp (Kp.of_below (pb := w3.heap.size) hb3) (by have := HNy.out.lt; have := hb3.size; omega))
  have HW3 := Lib.hid (HWy.out.trans (hb3.mono HWy.out.size))
  have HT3 := Lib.hid (HTy.out.below hb3)
  clear hb3
  by_cases hgt : 4096 < t.size
  · have hgt' : decide ((t.size : Int) > 4096) = true := by simp; omega
    have hgt2 : (4096 : Int) < (t.size : Int) := by omega
    have HP := Lib.hid (show parseB s = (zeroT, 0, 22) by rw [HP0.out, if_pos hgt])
    clear hgt
    go_wp2_with ((with_reducible refine at_st 39 (.tmp 2) ?_); refine wpList_store_blk rfl 39 (.tmp 2) (.tmp 39) rfl w.heap.size (nodeCells zeroT (.slice none 0 0)) rfl rfl HB3.out Tryd.sizeNode rfl (nodeCells_one _ _ rfl) ?_)
    refine ret_blk3 (cs := nodeCells zeroT (.slice none 0 0)) Tryd.results12 rfl (HB3.out.rowSame _) Tryd.underlying39 rfl Tryd.sizeNode rfl rfl rfl ?_
    rw [HP.out]
    exact ⟨.slice none 0 0, rfl, KAt.nil _ _ _, below_setRow HW3.out (Nat.le_refl _) _⟩
  · have hgt2 : ¬ (4096 : Int) < (t.size : Int) := by omega
    have HP := Lib.hid (show parseB s = (t, 0, 0) by rw [HP0.out, if_neg hgt])
    clear hgt
    go_wp2_with (first | ((with_reducible refine at_ld 39 (.tmp 8) ?_); refine wpList_load_blk rfl 39 (.tmp 8) rfl w2.heap.size (nodeCells t kv) rfl HN3.out Tryd.underlying39 rfl Tryd.sizeNode ?_) | ((with_reducible refine at_st 39 (.tmp 2) ?_); refine wpList_store_blk rfl 39 (.tmp 2) (.tmp 40) rfl w.heap.size (nodeCells t kv) rfl rfl HB3.out Tryd.sizeNode rfl (nodeCells_one _ _ HT3.out.kat.one) ?_))
    refine ret_blk3 (cs := nodeCells t kv) Tryd.results12 rfl (HB3.out.rowSame _) Tryd.underlying39 rfl Tryd.sizeNode rfl rfl rfl ?_
    rw [HP.out]
    exact ⟨kv, rfl, (HT3.out.kat.setRow w.heap.size _ (fun b hb => by omega)).mono (fun b hb _ => by omega), below_setRow HW3.out (Nat.le_refl _) _⟩

theorem parse_any (s : ByteArray) (w : World) (hs : s.size ≤ maxLen) (ht : Tabs w) :
    Calls Tryd.prog 12 #[.string s] w (ParsePost (parseB s) w) := by
  cases hr : lexAll s with
  | error pc => obtain ⟨p, c⟩ := pc; exact parse_lex s w hs ht hr
  | ok ts =>
    cases hu : unitP ts with
    | error pc => obtain ⟨p, c⟩ := pc; exact parse_err s w hs ht hr hu
    | ok q => obtain ⟨t, l'⟩ := q; exact parse_ok s w hs ht hr hu

end Go.Proofs.YtdkdidgeaalcgaaDoor
