/- The contract of syntax.read: the tree of a whole text's tokens, or the first fault, which its deferred function recovers. -/
import Derived.Test.YtflhniiemmahmaaDoorUnit
import Derived.Recover
namespace Go.Proofs.YtflhniiemmahmaaDoor
open Go.RowKit

theorem Tryd.sizeFault : (Tryd.prog.info? 53).map (·.size) = some 2 := by kernel_rfl

theorem assert_fault (v : Value) (w : World) : (Instr.typeAssert (.iface 53 v) 20 53 true).run Tryd.prog w = .ok (.tuple #[v, .bool true]) w := by
  simp [Instr.typeAssert, run_underlying Tryd.underlying53]

set_option maxRecDepth 100000 in
set_option maxHeartbeats 1000000 in
theorem catch_panicking (fb : Nat) (p : Nat) (c : Int) (w : World) (hb : Blk w fb [.int .i64 0, .int .i64 0] 53) :
    CallsD Tryd.prog 28 #[.pointer (some ⟨fb, 0, none⟩)] (.panicking [{ v := faultV p c, recovered := false }]) w fun e u' w' =>
      e = .returned (.tuple #[]) ∧ u' = .panicking [{ v := faultV p c, recovered := true }] ∧ Blk w' fb [.int .i64 p, .int .i64 c] 53 ∧ w.grownBy w' (some fb) := by
  have HB := Lib.hid hb
  have hlt := hb.lt
  have hta := assert_fault
  clear hb
  refine callsD_of_wpS Tryd.func28 rfl fun c₀ cs hu => ?_
  simp only [Tryd.ntmps28, List.size_toArray, List.length_cons, List.length_nil, Nat.reduceAdd, Nat.reduceSub, Array.replicate_succ, Array.replicate_zero, List.push_toArray, List.append_toArray, List.nil_append, List.cons_append]
  apply wpS_seq
  apply wpS_region
  unfold faultV at hu ⊢
  simp [wpOpsS, go_sem, recoverD, hu, Exit.thenS]
  refine wpS_of_wp ?_
  clear hu
  go_wp2_with ((with_reducible refine at_st 53 (.tmp 0) ?_); refine wpList_store_blk rfl 53 (.tmp 0) (.tmp 15) rfl fb [.int .i64 p, .int .i64 c] rfl rfl (HB.out.alloc _) Tryd.sizeFault rfl (by simp [Value.oneCell']) ?_)
  refine ⟨rfl, _, rfl, .tuple #[], by simp [results, Tryd.results28], rfl, rfl, (HB.out.alloc _).rowSame [.int .i64 p, .int .i64 c], ?_⟩
  exact ⟨rfl, rfl, rfl, by simp, fun k hk hn => (setRow_other _ fb k _ (fun e => hn (by rw [e]))).trans (Below.heap_alloc w _ k hk)⟩

set_option maxRecDepth 100000 in
set_option maxHeartbeats 1000000 in
theorem catch_idle (fb : Nat) (w : World) :
    CallsD Tryd.prog 28 #[.pointer (some ⟨fb, 0, none⟩)] .returning w fun e u' w' => e = .returned (.tuple #[]) ∧ u' = .returning ∧ w' = w := by
  refine callsD_of_wpS Tryd.func28 rfl fun c₀ cs hu => ?_
  simp only [Tryd.ntmps28, List.size_toArray, List.length_cons, List.length_nil, Nat.reduceAdd, Nat.reduceSub, Array.replicate_succ, Array.replicate_zero, List.push_toArray, List.append_toArray, List.nil_append, List.cons_append]
  apply wpS_seq
  apply wpS_region
  simp [wpOpsS, go_sem, recoverD, hu, Exit.thenS]
  refine wpS_of_wp ?_
  go_wp2_with fail
  refine ⟨rfl, .returning, ?_, .tuple #[], by simp [results, Tryd.results28], rfl, rfl, rfl⟩
  cases c₀
  simp_all

def ReadPost (r : R T) (w : World) (e : Ending) (w' : World) : Prop :=
  match r with
  | .ok (t, _) => ∃ kv, e = .returned (.tuple #[NodeV t kv, .agg #[.int .i64 0, .int .i64 0]]) ∧ TAt 25 w' t (fun b => w.heap.size ≤ b) kv ∧ Below w.heap.size w w'
  | .error (p, c) => e = .returned (.tuple #[NodeV zeroT (.slice none 0 0), .agg #[.int .i64 p, .int .i64 c]]) ∧ Below w.heap.size w w' ∧ (c = 20 ∨ c = 21)

theorem ReadPost.mk_ok {r : R T} {w w' : World} {e : Ending} {t : T} {l : List Tok} {kv : Value} (hr : r = .ok (t, l)) (he : e = .returned (.tuple #[NodeV t kv, .agg #[.int .i64 0, .int .i64 0]])) (ht : TAt 25 w' t (fun b => w.heap.size ≤ b) kv) (hb : Below w.heap.size w w') : ReadPost r w e w' := by
  rw [hr]; exact ⟨kv, he, ht, hb⟩
theorem ReadPost.mk_err {r : R T} {w w' : World} {e : Ending} {p : Nat} {c : Int} (hr : r = .error (p, c)) (he : e = .returned (.tuple #[NodeV zeroT (.slice none 0 0), .agg #[.int .i64 p, .int .i64 c]])) (hb : Below w.heap.size w w') (hc : c = 20 ∨ c = 21) : ReadPost r w e w' := by
  rw [hr]; exact ⟨he, hb, hc⟩

theorem results_blks {P : Program} {fn : Func} {s u : Tmp} {ty tz t t' : TypeId} (h : fn.results = #[.cell s ty, .cell u tz]) {tmps : Array Value} {W : World} {g g' : Nat} {cs cs' : List Value} {d d' : TypeDesc}
    (hs : tmps.getD s undef = .pointer (some ⟨g, 0, none⟩)) (hu' : tmps.getD u undef = .pointer (some ⟨g', 0, none⟩)) (hb : Blk W g cs t) (hb' : Blk W g' cs' t') (hu : P.underlying ty = some d) (hd : d.isRow = true) (hi : (P.info? ty).map (·.size) = some cs.length)
    (hz : P.underlying tz = some d') (hd' : d'.isRow = true) (hi' : (P.info? tz).map (·.size) = some cs'.length) : (results fn tmps).run P W = .ok (.tuple #[.agg cs.toArray, .agg cs'.toArray]) W := by
  have hl := run_loadVar_mid (P := P) W g 0 ty cs d (fun j v hj => by rw [Nat.zero_add, hb.cell j]; exact hj) hu hd hi
  have hl' := run_loadVar_mid (P := P) W g' 0 tz cs' d' (fun j v hj => by rw [Nat.zero_add, hb'.cell j]; exact hj) hz hd' hi'
  have h1 : tmps[s]?.getD undef = .pointer (some ⟨g, 0, none⟩) := by rw [← hs]; simp
  have h2 : tmps[u]?.getD undef = .pointer (some ⟨g', 0, none⟩) := by rw [← hu']; simp
  simp [results, h, h1, h2, asAddr, hl, hl']

/- The tokens that read is handed. -/
structure Toks (w : World) (tb cap : Nat) (ts : List Tok) : Prop where
  row : RowAt w tb ts
  lt : tb < w.heap.size
  ends : Ends ts
  ok : ∀ t ∈ ts, TokOK t
  len : ts.length ≤ 16385
  capb : ts.length ≤ cap

set_option maxRecDepth 100000 in
set_option maxHeartbeats 1000000 in
theorem read_any {w : World} {tb cap : Nat} {ts : List Tok} (h : Toks w tb cap ts) :
    Calls Tryd.prog 19 #[.slice (some ⟨tb, 0, none⟩) ts.length cap] w (ReadPost (unitP ts) w) := by
  have hmf := makeFunc_run
  have HB0 := Lib.hid (((Blk.new w zeroNodeCells 25).alloc (.cells #[.int .i64 0, .int .i64 0] 53)).alloc (.cells #[.slice (some ⟨tb, 0, none⟩) ts.length cap, .int .i64 0, .int .i64 0] 75))
  have HF0 := Lib.hid ((Blk.new2 w (.cells zeroNodeCells.toArray 25) [.int .i64 0, .int .i64 0] 53).alloc (.cells #[.slice (some ⟨tb, 0, none⟩) ts.length cap, .int .i64 0, .int .i64 0] 75))
  have HST : Hid (PSt ⟨w.heap.size + 2, tb, cap, ts⟩ (((w.alloc (.cells zeroNodeCells.toArray 25)).alloc (.cells #[.int .i64 0, .int .i64 0] 53)).alloc (.cells #[.slice (some ⟨tb, 0, none⟩) ts.length cap, .int .i64 0, .int .i64 0] 75)) ts 0) := (by
    have hlt := h.lt
    refine ⟨Nat.le_refl _, by simp, ?_, ?_, by show tb ≠ w.heap.size + 2; omega, by simp; omega, h.ends, h.ok, h.len, h.capb, by omega⟩
    · have h1 := heap_alloc_new ((w.alloc (.cells zeroNodeCells.toArray 25)).alloc (.cells #[.int .i64 0, .int .i64 0] 53)) (.cells #[.slice (some ⟨tb, 0, none⟩) ts.length cap, .int .i64 0, .int .i64 0] 75)
      rw [show ((w.alloc (.cells zeroNodeCells.toArray 25)).alloc (.cells #[.int .i64 0, .int .i64 0] 53)).heap.size = w.heap.size + 2 by simp] at h1
      simpa using h1
    · exact h.row.same ((Below.heap_alloc _ _ _ (by simp; omega)).trans ((Below.heap_alloc _ _ _ (by simp; omega)).trans (Below.heap_alloc _ _ _ hlt))))
  have HW := Lib.hid ((((Below.refl w.heap.size w).alloc (Nat.le_refl _) (.cells zeroNodeCells.toArray 25)).alloc (by simp) (.cells #[.int .i64 0, .int .i64 0] 53)).alloc (by simp; omega) (.cells #[.slice (some ⟨tb, 0, none⟩) ts.length cap, .int .i64 0, .int .i64 0] 75))
  clear h
  go_enter_defers Tryd.func19, Tryd.ntmps19
  go_wp2_with fail
  refine (unit_any HST.out rfl).mono ?_
  intro e w1 hp
  cases hr : unitP ts with
  | error pc =>
    obtain ⟨p, c⟩ := pc
    rw [hr] at hp
    obtain ⟨rfl, hk, hcd⟩ := hp
    have HB1 := Lib.hid (HB0.out.kp hk (by show _ ≠ w.heap.size + 2; omega))
    have HF1 := Lib.hid (HF0.out.kp hk (by show _ ≠ w.heap.size + 2; omega))
    have HW1 := Lib.hid (HW.out.grown hk (by simp; omega) (fun k hk => by cases hk; show _ ≤ w.heap.size + 2; omega))
    clear hk hr
    go_wp2_with fail
    refine leaves_cons (f := 28) (args := #[.pointer (some ⟨w.heap.size + 1, 0, none⟩)]) (by simp) (by simp [go_sem]) ?_
    refine (catch_panicking (w.heap.size + 1) p c _ HF1.out).mono ?_
    rintro e u' w2 ⟨rfl, rfl, hb2, hg2⟩
    have hb1 := HB1.out.grown hg2 (by simp)
    exact ⟨_, results_blks Tryd.results19 rfl rfl hb1 hb2 Tryd.underlying25 rfl Tryd.sizeNode Tryd.underlying53 rfl Tryd.sizeFault, .mk_err rfl rfl (HW1.out.grown hg2 HW1.out.size (fun k hk => by cases hk; omega)) hcd⟩
  | ok q =>
    obtain ⟨t, l'⟩ := q
    rw [hr] at hp
    obtain ⟨v, rfl, ⟨kv, rfl, ht⟩, hs, hl, hk⟩ := hp
    have HB1 := Lib.hid (HB0.out.kp hk (by show _ ≠ w.heap.size + 2; omega))
    have HF1 := Lib.hid (HF0.out.kp hk (by show _ ≠ w.heap.size + 2; omega))
    have HW1 := Lib.hid (HW.out.grown hk (by simp; omega) (fun k hk => by cases hk; show _ ≤ w.heap.size + 2; omega))
    have HT := Lib.hid (ht.mono (S' := fun b => w.heap.size + 1 < b) (fun b hb _ => by simp at hb; omega))
    have HRR := Lib.hid hr
    clear hk hr hs hl ht
    unfold NodeV
    go_wp2_with (first | ((with_reducible refine at_st 25 (.tmp 2) ?_); refine wpList_store_blk rfl 25 (.tmp 2) (.tmp 10) rfl w.heap.size (nodeCells t kv) rfl rfl HB1.out Tryd.sizeNode rfl (nodeCells_one _ _ HT.out.kat.one) ?_) | ((with_reducible refine at_st 53 (.tmp 3) ?_); refine wpList_store_blk rfl 53 (.tmp 3) (.tmp 11) rfl (w.heap.size + 1) [.int .i64 0, .int .i64 0] rfl rfl (HF1.out.rowOther w.heap.size _ (by omega)) Tryd.sizeFault rfl (by simp [Value.oneCell']) ?_))
    refine leaves_cons (f := 28) (args := #[.pointer (some ⟨w.heap.size + 1, 0, none⟩)]) (by simp) (by simp [go_sem]) ?_
    refine (catch_idle (w.heap.size + 1) _).mono ?_
    rintro e u' w2 ⟨rfl, rfl, rfl⟩
    have hb1 := (HB1.out.rowSame (nodeCells t kv)).rowOther (w.heap.size + 1) [.int .i64 0, .int .i64 0].toArray (by omega)
    have hb2 := (HF1.out.rowOther w.heap.size (nodeCells t kv).toArray (by omega)).rowSame [.int .i64 0, .int .i64 0]
    have hg : ∀ (W : World) (g : Nat) (cs : Array Value), w.heap.size ≤ g → Below w.heap.size w W → Below w.heap.size w (W.setRow g cs) := fun W g cs hg hb =>
      ⟨hb.os, hb.tape, hb.output, by simpa using hb.size, fun k hk => (setRow_other W g k cs (by omega)).trans (hb.block k hk)⟩
    exact ⟨_, results_blks Tryd.results19 rfl rfl hb1 hb2 Tryd.underlying25 rfl Tryd.sizeNode Tryd.underlying53 rfl Tryd.sizeFault, .mk_ok HRR.out rfl
      (((HT.out.setRow w.heap.size _ (fun b hb => by omega)).setRow (w.heap.size + 1) _ (fun b hb => by omega)).mono (fun b hb _ => by omega)) (hg _ _ _ (by omega) (hg _ _ _ (Nat.le_refl _) HW1.out))⟩

end Go.Proofs.YtflhniiemmahmaaDoor
