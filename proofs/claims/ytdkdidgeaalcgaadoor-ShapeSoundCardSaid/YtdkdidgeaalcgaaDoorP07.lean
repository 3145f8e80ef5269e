/- The contracts of syntax.sums (the map of the signs of a sum) and of the parser's acceptSum, which goes through that map in whatever order. The contracts of the parser's nameTerm and numberTerm. -/
import Derived.Test.YtdkdidgeaalcgaaDoorP06
import Derived.Maps.RangeRun
import Derived.MapKept
import Derived.Test.YtdkdidgeaalcgaaDoorP05
namespace Go.Proofs.YtdkdidgeaalcgaaDoor
section
open Go.RowKit
open Go.ChangeMaps (setBlock)

theorem setBlock_new (w : World) (o o' : Obj) : setBlock (w.alloc o) w.heap.size o' = w.alloc o' := by
  unfold setBlock
  show ({ w.alloc o with heap := (w.heap.push o).setIfInBounds w.heap.size o' } : World) = _
  have hp : (w.heap.push o).setIfInBounds w.heap.size o' = w.heap.push o' := by
    apply Array.toList_inj.1
    simp
  rw [hp]
  rfl

theorem run_put {P : Program} {w : World} {t kt et : TypeId} {r : Nat} {es : Array MapEntry} {clock : Nat} {k : ByteArray} {v : Value} (ht : P.underlying t = some (.map kt et)) (hk : P.underlying kt = some .string)
    (hb : w.heap[r]? = some (.map es clock)) (hf : Instr.findNow .string (.string k) es.toList 0 = some none) :
    (Instr.mapUpdate t (.map (some r)) (.string k) v).run P w = .ok () (setBlock w r (.map (es.push ⟨.string k, v, clock⟩) (clock + 1))) := by
  have h1 := MapKept.run_checkKey (P := P) (w := w) (k := .string k) hk (by first | exact trivial | exact ⟨_, rfl⟩ | rfl | simp [MapKept.IsKey]) false 9999
  have h2 := MapKept.run_findKey (P := P) (w := w) (kt := kt) (k := .string k) (l := es.toList) hk hf
  have h3 := MapKept.run_getObj_map (P := P) (w := w) hb
  have h4 : ∀ o', (setObj r o').run P w = .ok () (setBlock w r o') := fun o' => by simp [setObj, Sem.run, hb, setBlock]
  simp [Instr.mapUpdate, run_underlying ht, h1, h2, h3, h4]

def plusE : MapEntry := ⟨.string ⟨#[43]⟩, .agg #[.int .i64 21, .int .i64 1], 0⟩
def minusE : MapEntry := ⟨.string ⟨#[45]⟩, .agg #[.int .i64 22, .int .i64 (-1)], 1⟩
def sumEs : Array MapEntry := #[plusE, minusE]

set_option maxRecDepth 100000 in
set_option maxHeartbeats 400000 in
theorem sums_any (w : World) : Calls Tryd.prog 87 #[] w fun e w' => e = .returned (.map (some w.heap.size)) ∧ w' = w.alloc (.map sumEs 2) := by
  have h1 : (Instr.mapUpdate 122 (.map (some w.heap.size)) (.string ⟨#[43]⟩) (.agg #[.int .i64 21, .int .i64 1])).run Tryd.prog (w.alloc (.map #[] 0)) = .ok () (w.alloc (.map #[plusE] 1)) := by
    have := run_put (P := Tryd.prog) (w := w.alloc (.map #[] 0)) (r := w.heap.size) (es := #[]) (clock := 0) (k := ⟨#[43]⟩) (v := .agg #[.int .i64 21, .int .i64 1]) Tryd.underlying122 Tryd.underlying9 (heap_alloc_new w _) rfl
    rw [setBlock_new] at this
    exact this
  have h2 : (Instr.mapUpdate 122 (.map (some w.heap.size)) (.string ⟨#[45]⟩) (.agg #[.int .i64 22, .int .i64 (-1)])).run Tryd.prog (w.alloc (.map #[plusE] 1)) = .ok () (w.alloc (.map sumEs 2)) := by
    have := run_put (P := Tryd.prog) (w := w.alloc (.map #[plusE] 1)) (r := w.heap.size) (es := #[plusE]) (clock := 1) (k := ⟨#[45]⟩) (v := .agg #[.int .i64 22, .int .i64 (-1)]) Tryd.underlying122 Tryd.underlying9 (heap_alloc_new w _) (by kernel_rfl)
    rw [setBlock_new] at this
    exact this
  have h0 : (Instr.makeMap 122 none).run Tryd.prog w = .ok (.map (some w.heap.size)) (w.alloc (.map #[] 0)) := rfl
  go_enter Tryd.func87, Tryd.ntmps87
  go_wp2
  go_ret
  exact ⟨rfl, rfl⟩

theorem heap_setBlock (w : World) (r k : Nat) (o : Obj) (h : k ≠ r) : (setBlock w r o).heap[k]? = w.heap[k]? := by
  unfold setBlock
  simp [Ne.symm h]
theorem heap_setBlock_same (w : World) (r : Nat) (o : Obj) (h : r < w.heap.size) : (setBlock w r o).heap[r]? = some o := by
  unfold setBlock
  simp [h]
theorem Run.setBlock {E : Env} {w W : World} {l : List Tok} {d : Nat} (h : Run E w W l d) {r : Nat} (hr : w.heap.size ≤ r) (o : Obj) : Run E w (ChangeMaps.setBlock W r o) l d :=
  ⟨⟨h.kp.os, h.kp.tape, h.kp.output, by simpa [ChangeMaps.setBlock] using h.kp.size, fun k hk hn => (heap_setBlock W r k o (by omega)).trans (h.kp.block k hk hn)⟩,
   h.st.same (by simp [ChangeMaps.setBlock]) (heap_setBlock _ _ _ _ (by have := h.lo; omega)) (heap_setBlock _ _ _ _ (by have := h.lt; omega)), h.lo, h.lt⟩
theorem Run.drew {E : Env} {w W : World} {l : List Tok} {d : Nat} (h : Run E w W l d) : Run E w W.drew l d := ⟨h.kp.drew, h.st.same (Nat.le_refl _) rfl rfl, h.lo, h.lt⟩

theorem sumEs_mem {e : MapEntry} (h : e ∈ sumEs.toList) : e = plusE ∨ e = minusE := by
  simpa [sumEs] using h
theorem left_mem {e : MapEntry} {seen : Array Nat} (h : e ∈ (leftOf sumEs seen).toList) : e ∈ sumEs.toList ∧ e.born ∉ seen := by
  simp only [leftOf, Array.toList_filter, List.mem_filter] at h
  exact ⟨h.1, by simpa using h.2⟩
theorem left_none {seen : Array Nat} (h : (leftOf sumEs seen).size = 0) : 0 ∈ seen ∧ 1 ∈ seen := by
  have h0 : leftOf sumEs seen = #[] := Array.eq_empty_of_size_eq_zero h
  unfold leftOf at h0
  rw [Array.filter_eq_empty_iff] at h0
  have h1 := h0 plusE (by simp [sumEs])
  have h2 := h0 minusE (by simp [sumEs])
  exact ⟨by simpa [plusE] using h1, by simpa [minusE] using h2⟩
theorem left_size (seen : Array Nat) : (leftOf sumEs seen).size = (sumEs.toList.filter fun x => !seen.contains x.born).length := by
  unfold leftOf
  rw [← Array.toList_filter, Array.length_toList]
theorem left_push {e : MapEntry} {seen : Array Nat} (h : e ∈ (leftOf sumEs seen).toList) : (leftOf sumEs (seen.push e.born)).size < (leftOf sumEs seen).size := by
  have hm := left_mem h
  rw [left_size, left_size]
  refine filter_lt (fun x : MapEntry => !seen.contains x.born) (fun x : MapEntry => !(seen.push e.born).contains x.born) (fun x hx => ?_) e (by simpa using hm.2) (by simp) sumEs.toList hm.1
  simp at hx ⊢
  exact hx.1

/- What holds at the head of each round: the signs that were gone through are not the next token. -/
def SumRel (E : Env) (w : World) (l : List Tok) (d : Nat) (g : Nat) (wr : World) : Prop :=
  ∃ seen : Array Nat, Run E w wr l d ∧ Blk wr w.heap.size [.int .i64 0, .int .i64 0] 118 ∧ wr.heap[w.heap.size + 1]? = some (.map sumEs 2) ∧ wr.heap[w.heap.size + 2]? = some (.mapIter (some (w.heap.size + 1)) 2 seen 2) ∧
    (0 ∈ seen → isT (hdT l) (bs [43]) = false) ∧ (1 ∈ seen → isT (hdT l) (bs [45]) = false) ∧ (leftOf sumEs seen).size ≤ g

def SumPost (E : Env) (w : World) (l : List Tok) (d : Nat) (e : Ending) (w' : World) : Prop :=
  (sumP l = none ∧ e = .returned (.tuple #[.agg #[.int .i64 0, .int .i64 0], .bool false]) ∧ PSt E w' l d ∧ Kp E.pb w w') ∨
  ∃ k f, sumP l = some (k, f) ∧ (f = 1 ∨ f = -1) ∧ e = .returned (.tuple #[.agg #[.int .i64 k, .int .i64 f], .bool true]) ∧ PSt E w' l.tail d ∧ Kp E.pb w w'

theorem ret_blk2 {P : Program} {fn : Func} {s u : Tmp} {ty t : TypeId} (h : fn.results = #[.cell s ty, .tmp u]) {a : Act} {W : World} {g : Nat} {old cs : List Value} {d : TypeDesc} {R : Ending → World → Prop} {x : Value} (hs : a.tmps.getD s undef = .pointer (some ⟨g, 0, none⟩))
    (hb : Blk W g old t) (hu : P.underlying ty = some d) (hd : d.isRow = true) (hi : (P.info? ty).map (·.size) = some cs.length) (hx : a.tmps.getD u undef = x) (hdf : a.defers = []) (hR : R (.returned (.tuple #[.agg cs.toArray, x])) (W.setRow g cs.toArray)) :
    bodyPost P fn R .ret a (W.setRow g cs.toArray) := by
  refine bodyPost_ret ?_ hdf hR
  have hl := run_loadVar_mid (P := P) (W.setRow g cs.toArray) g 0 ty cs d (fun j v hj => by rw [Nat.zero_add, (hb.rowSame cs).cell j]; exact hj) hu hd hi
  have hs' : a.tmps[s]?.getD undef = .pointer (some ⟨g, 0, none⟩) := by rw [← hs]; simp
  have hx' : a.tmps[u]?.getD undef = x := by rw [← hx]; simp
  simp [results, h, hs', asAddr, hl, hx']

theorem isT_inj {t : Tok} {s s' : ByteArray} (h : isT t s = true) (h' : isT t s' = true) : s.toList = s'.toList := by
  unfold isT at h h'
  rw [← beq_iff_eq.1 h, ← beq_iff_eq.1 h']

theorem Tryd.sizeSum : (Tryd.prog.info? 118).map (·.size) = some 2 := by kernel_rfl

set_option maxRecDepth 100000 in
set_option maxHeartbeats 1000000 in
theorem acceptSum_any {E : Env} {w : World} {l : List Tok} {d : Nat} (h : PSt E w l d) :
    Calls Tryd.prog 82 #[.pointer (some ⟨E.pb, 0, none⟩)] w (SumPost E w l d) := by
  have HR0 := Lib.hid ((((Run.start h).alloc (.cells #[.int .i64 0, .int .i64 0] 118)).alloc (.map sumEs 2)).alloc (.mapIter (some (w.heap.size + 1)) 2 #[] 2))
  have HB0 := Lib.hid (((Blk.new w [.int .i64 0, .int .i64 0] 118).alloc (.map sumEs 2)).alloc (.mapIter (some (w.heap.size + 1)) 2 #[] 2))
  have hlo := h.plt
  have hlt := h.tlt
  have hln := h.len
  clear h
  have hrg := run_range_map (P := Tryd.prog) ((w.alloc (.cells #[.int .i64 0, .int .i64 0] 118)).alloc (.map sumEs 2)) 122 9 118 (w.heap.size + 1) sumEs 2 Tryd.underlying122
    (by have := heap_alloc_new (w.alloc (.cells #[.int .i64 0, .int .i64 0] 118)) (.map sumEs 2); simpa using this)
  rw [show ((w.alloc (.cells #[.int .i64 0, .int .i64 0] 118)).alloc (.map sumEs 2)).heap.size = w.heap.size + 2 by simp] at hrg
  go_enter Tryd.func82, Tryd.ntmps82
  go_wp2_with fail
  refine (sums_any _).mono ?_
  rintro e w1 ⟨rfl, rfl⟩
  go_wp2_with fail
  clear hrg
  go_loopg [4] 2 (fun g _ wr => SumRel E w l d g wr)
  case atStart =>
    refine ⟨#[], HR0.out, HB0.out, ?_, ?_, by simp, by simp, by rw [left_size]; exact Nat.le_trans (List.length_filter_le _ _) (Nat.le_refl _)⟩
    · have := heap_alloc_new (w.alloc (.cells #[.int .i64 0, .int .i64 0] 118)) (.map sumEs 2)
      rw [Below.heap_alloc _ _ _ (by simp)]
      simpa using this
    · have := heap_alloc_new ((w.alloc (.cells #[.int .i64 0, .int .i64 0] 118)).alloc (.map sumEs 2)) (.mapIter (some (w.heap.size + 1)) 2 #[] 2)
      simpa using this
  case round =>
    obtain ⟨seen, hR, hB, hm, hi, h0, h1, hg⟩ := hrel
    have law := run_next_at (P := Tryd.prog) wr 0 (w.heap.size + 2) (w.heap.size + 1) 2 2 seen sumEs 2 hi hm (by intro x hx; rcases sumEs_mem hx with rfl | rfl <;> decide) (Nat.le_refl _)
    have HR := Lib.hid hR
    have HB := Lib.hid hB
    have HM := Lib.hid hm
    have HI := Lib.hid hi
    have HH0 := Lib.hid h0
    have HH1 := Lib.hid h1
    have hsz : w.heap.size + 2 < wr.heap.size := (Array.getElem?_eq_some_iff.1 hi).1
    clear hR hB hm hi h0 h1 HR0 HB0
    rcases law with ⟨hz, hrun⟩ | ⟨e, he, w1, hal, hrun⟩
    · have hnx : ∀ ty, (Instr.next (.pointer (some ⟨w.heap.size + 2, 0, none⟩)) false ty).run Tryd.prog wr = _ := fun _ => hrun
      have HP := Lib.hid (show sumP l = none by unfold sumP; rw [HH0.out (left_none hz).1, HH1.out (left_none hz).2]; rfl)
      clear hrun hz hg
      go_wp2_with ((with_reducible refine at_st 118 (.tmp 2) ?_); refine wpList_store_blk rfl 118 (.tmp 2) (.tmp 17) rfl w.heap.size [.int .i64 0, .int .i64 0] rfl rfl HB.out Tryd.sizeSum rfl (by simp [Value.oneCell']) ?_)
      exact ret_blk2 (cs := [.int .i64 0, .int .i64 0]) Tryd.results82 rfl HB.out Tryd.underlying118 rfl Tryd.sizeSum rfl rfl
        (.inl ⟨HP.out, rfl, (HR.out.setRow (Nat.le_refl _) _).st, (HR.out.setRow (Nat.le_refl _) _).kp⟩)
    · have hmem := left_mem he
      have HW := Lib.hid (left_push he)
      have hR1 : Run E w w1 l d := hal.elim (fun e => e ▸ HR.out) (fun e => e ▸ HR.out.drew)
      have hB1 : Blk w1 w.heap.size [.int .i64 0, .int .i64 0] 118 := hal.elim (fun e => e ▸ HB.out) (fun e => e ▸ HB.out)
      have hM1 : w1.heap[w.heap.size + 1]? = some (.map sumEs 2) := hal.elim (fun e => e ▸ HM.out) (fun e => e ▸ HM.out)
      have hI1 : w.heap.size + 2 < w1.heap.size := hal.elim (fun e => e ▸ hsz) (fun e => e ▸ hsz)
      generalize hw2 : setBlock w1 (w.heap.size + 2) (.mapIter (some (w.heap.size + 1)) 2 (seen.push e.born) 2) = w2 at hrun
      have hR2 : Run E w w2 l d := by rw [← hw2]; exact hR1.setBlock (by omega) _
      have hB2 : Blk w2 w.heap.size [.int .i64 0, .int .i64 0] 118 := by rw [← hw2]; exact (heap_setBlock _ _ _ _ (by omega)).trans hB1
      have hM2 : w2.heap[w.heap.size + 1]? = some (.map sumEs 2) := by rw [← hw2]; exact (heap_setBlock _ _ _ _ (by omega)).trans hM1
      have hI2 : w2.heap[w.heap.size + 2]? = some (.mapIter (some (w.heap.size + 1)) 2 (seen.push e.born) 2) := by rw [← hw2]; exact heap_setBlock_same _ _ _ hI1
      have hent := run_entry_at (P := Tryd.prog) w2 (w.heap.size + 2) (w.heap.size + 1) 2 seen sumEs 2 e hI2 hM2 hmem.1 (by decide)
      have hnx : ∀ ty, (Instr.next (.pointer (some ⟨w.heap.size + 2, 0, none⟩)) false ty).run Tryd.prog wr = _ := fun _ => hrun
      have HR2 := Lib.hid hR2
      have HB2 := Lib.hid hB2
      have HM2 := Lib.hid hM2
      have HI2 := Lib.hid hI2
      have HG := Lib.hid hg
      have hsz2 : w.heap.size < w2.heap.size := hB2.lt
      clear hrun hw2 hR2 hB2 hM2 hI2 hR1 hB1 hM1 hI1 hal hg HR HB HM HI he w1
      rcases sumEs_mem hmem.1 with rfl | rfl
      · clear hmem
        unfold plusE at hent hnx HI2 HW
        simp only [] at hent hnx HI2 HW
        cases hi : isT (hdT l) (bs [43]) with
        | false =>
          have HN := Lib.hid hi
          clear hi
          go_wp2_with fail
          refine (accept_no (HR2.out.alloc _).st HN.out).mono ?_
          rintro e w3 ⟨rfl, hb⟩
          have HR3 := Lib.hid ((HR2.out.alloc _).below hb)
          have HB3 := Lib.hid ((HB2.out.alloc _).kp (Kp.of_below (pb := E.pb) hb) (by omega))
          have HM3 := Lib.hid ((hb.block _ (by have := (Array.getElem?_eq_some_iff.1 HM2.out).1; simp; omega)).trans ((Below.heap_alloc _ _ _ (Array.getElem?_eq_some_iff.1 HM2.out).1).trans HM2.out))
          have HI3 := Lib.hid ((hb.block _ (by have := (Array.getElem?_eq_some_iff.1 HI2.out).1; simp; omega)).trans ((Below.heap_alloc _ _ _ (Array.getElem?_eq_some_iff.1 HI2.out).1).trans HI2.out))
          clear hb hent hnx
          go_wp2
          go_roundg (gk - 1)
          case measure => have := HG.out; have := HW.out; omega
          case rel => exact ⟨seen.push 0, HR3.out, HB3.out, HM3.out, HI3.out, fun _ => HN.out, fun hx => HH1.out (by simpa using hx), by have := HG.out; have := HW.out; omega⟩
        | true =>
          have HN := Lib.hid hi
          have HP := Lib.hid (show sumP l = some (21, 1) by unfold sumP; rw [HN.out]; rfl)
          clear hi
          go_wp2_with fail
          refine (accept_yes (HR2.out.alloc _).st HN.out (by decide)).mono ?_
          rintro e w3 ⟨rfl, hs, hk⟩
          have HR3 := Lib.hid ((HR2.out.alloc _).call hk hs)
          have HB3 := Lib.hid ((HB2.out.alloc _).kp hk (by omega))
          have HC3 := Lib.hid ((Blk.new w2 [.int .i64 21, .int .i64 (1)] 118).kp hk (by omega))
          clear hs hk hent hnx
          go_wp2_with (first | ((with_reducible refine at_ld 118 (.tmp 5) ?_); refine wpList_load_blk rfl 118 (.tmp 5) rfl w2.heap.size [.int .i64 21, .int .i64 (1)] rfl HC3.out Tryd.underlying118 rfl Tryd.sizeSum ?_) | ((with_reducible refine at_st 118 (.tmp 2) ?_); refine wpList_store_blk rfl 118 (.tmp 2) (.tmp 16) rfl w.heap.size [.int .i64 21, .int .i64 (1)] rfl rfl HB3.out Tryd.sizeSum rfl (by simp [Value.oneCell']) ?_))
          (try rw [Exit.noGoto_ret])
          exact ret_blk2 (cs := [.int .i64 21, .int .i64 (1)]) Tryd.results82 rfl HB3.out Tryd.underlying118 rfl Tryd.sizeSum rfl rfl
            (.inr ⟨21, 1, HP.out, by omega, rfl, (HR3.out.setRow (Nat.le_refl _) _).st, (HR3.out.setRow (Nat.le_refl _) _).kp⟩)
      · clear hmem
        unfold minusE at hent hnx HI2 HW
        simp only [] at hent hnx HI2 HW
        cases hi : isT (hdT l) (bs [45]) with
        | false =>
          have HN := Lib.hid hi
          clear hi
          go_wp2_with fail
          refine (accept_no (HR2.out.alloc _).st HN.out).mono ?_
          rintro e w3 ⟨rfl, hb⟩
          have HR3 := Lib.hid ((HR2.out.alloc _).below hb)
          have HB3 := Lib.hid ((HB2.out.alloc _).kp (Kp.of_below (pb := E.pb) hb) (by omega))
          have HM3 := Lib.hid ((hb.block _ (by have := (Array.getElem?_eq_some_iff.1 HM2.out).1; simp; omega)).trans ((Below.heap_alloc _ _ _ (Array.getElem?_eq_some_iff.1 HM2.out).1).trans HM2.out))
          have HI3 := Lib.hid ((hb.block _ (by have := (Array.getElem?_eq_some_iff.1 HI2.out).1; simp; omega)).trans ((Below.heap_alloc _ _ _ (Array.getElem?_eq_some_iff.1 HI2.out).1).trans HI2.out))
          clear hb hent hnx
          go_wp2
          go_roundg (gk - 1)
          case measure => have := HG.out; have := HW.out; omega
          case rel => exact ⟨seen.push 1, HR3.out, HB3.out, HM3.out, HI3.out, fun hx => HH0.out (by simpa using hx), fun _ => HN.out, by have := HG.out; have := HW.out; omega⟩
        | true =>
          have HN := Lib.hid hi
          have HP := Lib.hid (show sumP l = some (22, -1) by unfold sumP; rw [HN.out, show isT (hdT l) (bs [43]) = false by cases hc : isT (hdT l) (bs [43]) with | false => rfl | true => exact absurd (isT_inj hc HN.out) (by simp only [ByteArray.toList_eq]; decide)]; rfl)
          clear hi
          go_wp2_with fail
          refine (accept_yes (HR2.out.alloc _).st HN.out (by decide)).mono ?_
          rintro e w3 ⟨rfl, hs, hk⟩
          have HR3 := Lib.hid ((HR2.out.alloc _).call hk hs)
          have HB3 := Lib.hid ((HB2.out.alloc _).kp hk (by omega))
          have HC3 := Lib.hid ((Blk.new w2 [.int .i64 22, .int .i64 (-1)] 118).kp hk (by omega))
          clear hs hk hent hnx
          go_wp2_with (first | ((with_reducible refine at_ld 118 (.tmp 5) ?_); refine wpList_load_blk rfl 118 (.tmp 5) rfl w2.heap.size [.int .i64 22, .int .i64 (-1)] rfl HC3.out Tryd.underlying118 rfl Tryd.sizeSum ?_) | ((with_reducible refine at_st 118 (.tmp 2) ?_); refine wpList_store_blk rfl 118 (.tmp 2) (.tmp 16) rfl w.heap.size [.int .i64 22, .int .i64 (-1)] rfl rfl HB3.out Tryd.sizeSum rfl (by simp [Value.oneCell']) ?_))
          (try rw [Exit.noGoto_ret])
          exact ret_blk2 (cs := [.int .i64 22, .int .i64 (-1)]) Tryd.results82 rfl HB3.out Tryd.underlying118 rfl Tryd.sizeSum rfl rfl
            (.inr ⟨22, -1, HP.out, by omega, rfl, (HR3.out.setRow (Nat.le_refl _) _).st, (HR3.out.setRow (Nat.le_refl _) _).kp⟩)
end

section
open Go.RowKit

set_option maxRecDepth 100000 in
set_option maxHeartbeats 1000000 in
theorem nameTerm_any {E : Env} {w : World} {l : List Tok} {d : Nat} (h : PSt E w l d) :
    Calls Tryd.prog 74 #[.pointer (some ⟨E.pb, 0, none⟩)] w (PPost VNode E w l d (nameTermP l)) := by
  have HR0 := Lib.hid ((Run.start h).alloc (.cells zeroNodeCells.toArray 39))
  have HB0 := Lib.hid (Blk.new w zeroNodeCells 39)
  have hlo := h.plt
  have hlt := h.tlt
  have hln := h.len
  clear h
  go_enter Tryd.func74, Tryd.ntmps74
  go_wp2_with fail
  refine (peek_any HR0.out.st).mono ?_
  rintro e w1 ⟨rfl, hb⟩
  have HR1 := Lib.hid (HR0.out.below hb)
  have hzR1 := HR1.out.size
  have HB1 := Lib.hid (HB0.out.kp (Kp.of_below (pb := E.pb) hb) (by omega))
  have hzHB1 := HB1.out.lt
  clear hb
  unfold tokV
  have fl0 := fldTok0
  have fl1 := fldTok1
  have fl3 := fldTok3
  go_wp2_with fail
  refine (name_any HR1.out.st).mono ?_
  intro e w2 hp
  cases hr : nameP l with
  | error pc =>
    obtain ⟨p, c⟩ := pc
    obtain ⟨rfl, hk, hcd⟩ := hp.err hr
    have HK := Lib.hid (HR1.out.kp.trans hk)
    have HP := Lib.hid (show nameTermP l = .error (p, c) by unfold nameTermP; exact (bd_err hr _))
    clear hr hp hk
    go_wp2
    exact ⟨rfl, Run.err HK.out HP.out hcd⟩
  | ok q =>
    obtain ⟨a2, l2⟩ := q
    obtain ⟨v2, rfl, hv, hs, hl, hk⟩ := hp.ok hr
    obtain rfl : v2 = .string a2 := hv
    have HR2 := Lib.hid (HR1.out.call hk hs)
    have hzR2 := HR2.out.size
    have HB2 := Lib.hid (HB1.out.kp hk (by omega))
    have hzHB2 := HB2.out.lt
    have HL2 := Lib.hid hl
    have H2 := Lib.hid hr
    clear hr hp hs hl hk 
    have HP := Lib.hid (show nameTermP l = .ok (T.mk 5 a2 0 (hdT l).place [], l2) by unfold nameTermP; exact (bd_ok H2.out _))
    go_wp2_with ((with_reducible refine at_st 39 (.tmp 2) ?_); refine wpList_store_blk rfl 39 (.tmp 2) (.tmp 10) rfl w.heap.size (nodeCells (T.mk 5 a2 0 (hdT l).place []) (.slice none 0 0)) rfl rfl HB2.out Tryd.sizeNode rfl (nodeCells_one _ _ rfl) ?_)
    exact ret_blk (cs := nodeCells (T.mk 5 a2 0 (hdT l).place []) (.slice none 0 0)) Tryd.results74 rfl HB2.out Tryd.underlying39 rfl Tryd.sizeNode rfl (Run.node HR2.out ((KAt.nil _ _ _).tat _ _ _ _) HP.out (by have := HL2.out; first | omega | (simp only [List.length_tail] at *; omega)))

set_option maxRecDepth 100000 in
set_option maxHeartbeats 1000000 in
theorem numberTerm_any {E : Env} {w : World} {l : List Tok} {d : Nat} (h : PSt E w l d) :
    Calls Tryd.prog 81 #[.pointer (some ⟨E.pb, 0, none⟩)] w (PPost VNode E w l d (numberTermP l)) := by
  have HR0 := Lib.hid ((Run.start h).alloc (.cells zeroNodeCells.toArray 39))
  have HB0 := Lib.hid (Blk.new w zeroNodeCells 39)
  have HL0 := Lib.hid (tail_lt h)
  have hlo := h.plt
  have hlt := h.tlt
  have hln := h.len
  clear h
  go_enter Tryd.func81, Tryd.ntmps81
  go_wp2_with fail
  refine (peek_any HR0.out.st).mono ?_
  rintro e w1 ⟨rfl, hb⟩
  have HR1 := Lib.hid (HR0.out.below hb)
  have hzR1 := HR1.out.size
  have HB1 := Lib.hid (HB0.out.kp (Kp.of_below (pb := E.pb) hb) (by omega))
  have hzHB1 := HB1.out.lt
  clear hb
  unfold tokV
  have fl0 := fldTok0
  have fl1 := fldTok1
  have fl3 := fldTok3
  cases hi : isT (hdT l) (bs [45]) with
  | false =>
    have HIi := Lib.hid hi
    clear hi
    go_wp2_with fail
    refine (accept_no (HR1.out.alloc _).st HIi.out).mono ?_
    rintro e w2 ⟨rfl, hb⟩
    have HR2 := Lib.hid ((HR1.out.alloc _).below hb)
    have hzR2 := HR2.out.size
    have HB2 := Lib.hid ((HB1.out.alloc _).kp (Kp.of_below (pb := E.pb) hb) (by omega))
    have hzHB2 := HB2.out.lt
    have HN2 := Lib.hid ((Blk.new w1 (nodeCells (T.mk 5 e0 0 (hdT l).place []) (.slice none 0 0)) 39).kp (Kp.of_below (pb := E.pb) hb) (by first | omega | (have := HR0.out.size; simp at *; omega)))
    have hzHN2 := HN2.out.lt
    clear hb
    go_wp2_with fail
    refine (number_any HR2.out.st).mono ?_
    intro e w3 hp
    cases hr : numberP l with
    | error pc =>
      obtain ⟨p, c⟩ := pc
      obtain ⟨rfl, hk, hcd⟩ := hp.err hr
      have HK := Lib.hid (HR2.out.kp.trans hk)
      have HP := Lib.hid (show numberTermP l = .error (p, c) by unfold numberTermP; exact ((cond_f HIi.out _ _)).trans ((bd_err hr _)))
      clear hr hp hk
      go_wp2
      exact ⟨rfl, Run.err HK.out HP.out hcd⟩
    | ok q =>
      obtain ⟨a3, l3⟩ := q
      obtain ⟨v3, rfl, hv, hs, hl, hk⟩ := hp.ok hr
      obtain ⟨rfl, hn0, hn1⟩ := hv
      have HR3 := Lib.hid (HR2.out.call hk hs)
      have hzR3 := HR3.out.size
      have HB3 := Lib.hid (HB2.out.kp hk (by omega))
      have hzHB3 := HB3.out.lt
      have HN3 := Lib.hid (HN2.out.kp hk (by first | omega | (have := HR0.out.size; simp at *; omega)))
      have hzHN3 := HN3.out.lt
      have HL3 := Lib.hid hl
      have H3 := Lib.hid hr
      clear hr hp hs hl hk 
      have hcell : _root_.Go.World.cell? _ ⟨w1.heap.size, 2, none⟩ = some (.int .i64 0) := HN3.out.cell 2
      have hfroz := HN3.out.frozen 2
      have HP := Lib.hid (show numberTermP l = .ok (T.mk 5 e0 (a3) (hdT l).place [], l3) by unfold numberTermP; exact ((cond_f HIi.out _ _)).trans ((bd_ok H3.out _)))
      go_wp2_with (first | ((with_reducible refine at_ld 39 (.tmp 3) ?_); refine wpList_load_blk rfl 39 (.tmp 3) rfl w1.heap.size (nodeCells (T.mk 5 e0 (a3) (hdT l).place []) (.slice none 0 0)) rfl (show Blk _ w1.heap.size (nodeCells (T.mk 5 e0 (a3) (hdT l).place []) (.slice none 0 0)) 39 from (HN3.out.setSame 2 (.int .i64 (a3)))) Tryd.underlying39 rfl Tryd.sizeNode ?_) | ((with_reducible refine at_st 39 (.tmp 2) ?_); refine wpList_store_blk rfl 39 (.tmp 2) (.tmp 17) rfl w.heap.size (nodeCells (T.mk 5 e0 (a3) (hdT l).place []) (.slice none 0 0)) rfl rfl (HB3.out.setOther ⟨w1.heap.size, 2, none⟩ _ (by show _ ≠ w1.heap.size; omega)) Tryd.sizeNode rfl (nodeCells_one _ _ rfl) ?_))
      exact ret_blk (cs := nodeCells (T.mk 5 e0 (a3) (hdT l).place []) (.slice none 0 0)) Tryd.results81 rfl (HB3.out.setOther ⟨w1.heap.size, 2, none⟩ _ (by show _ ≠ w1.heap.size; omega)) Tryd.underlying39 rfl Tryd.sizeNode rfl (Run.node (HR3.out.setCell (a := ⟨w1.heap.size, 2, none⟩) (by show w.heap.size ≤ w1.heap.size; omega) _) ((KAt.nil _ _ _).tat _ _ _ _) HP.out (by have := HL0.out; have := HL3.out; first | omega | (simp only [List.length_tail] at *; omega)))
  | true =>
    have HIi := Lib.hid hi
    clear hi
    go_wp2_with fail
    refine (accept_yes (HR1.out.alloc _).st HIi.out (by decide)).mono ?_
    rintro e w2 ⟨rfl, hs, hk⟩
    have HR2 := Lib.hid ((HR1.out.alloc _).call hk hs)
    have hzR2 := HR2.out.size
    have HB2 := Lib.hid ((HB1.out.alloc _).kp hk (by omega))
    have hzHB2 := HB2.out.lt
    have HN2 := Lib.hid ((Blk.new w1 (nodeCells (T.mk 5 e0 0 (hdT l).place []) (.slice none 0 0)) 39).kp hk (by first | omega | (have := HR0.out.size; simp at *; omega)))
    have hzHN2 := HN2.out.lt
    clear hs hk
    go_wp2_with fail
    refine (number_any HR2.out.st).mono ?_
    intro e w3 hp
    cases hr : numberP l.tail with
    | error pc =>
      obtain ⟨p, c⟩ := pc
      obtain ⟨rfl, hk, hcd⟩ := hp.err hr
      have HK := Lib.hid (HR2.out.kp.trans hk)
      have HP := Lib.hid (show numberTermP l = .error (p, c) by unfold numberTermP; exact ((cond_t HIi.out _ _)).trans ((bd_err hr _)))
      clear hr hp hk
      go_wp2
      exact ⟨rfl, Run.err HK.out HP.out hcd⟩
    | ok q =>
      obtain ⟨a3, l3⟩ := q
      obtain ⟨v3, rfl, hv, hs, hl, hk⟩ := hp.ok hr
      obtain ⟨rfl, hn0, hn1⟩ := hv
      have HR3 := Lib.hid (HR2.out.call hk hs)
      have hzR3 := HR3.out.size
      have HB3 := Lib.hid (HB2.out.kp hk (by omega))
      have hzHB3 := HB3.out.lt
      have HN3 := Lib.hid (HN2.out.kp hk (by first | omega | (have := HR0.out.size; simp at *; omega)))
      have hzHN3 := HN3.out.lt
      have HL3 := Lib.hid hl
      have H3 := Lib.hid hr
      clear hr hp hs hl hk 
      have hcell : _root_.Go.World.cell? _ ⟨w1.heap.size, 2, none⟩ = some (.int .i64 0) := HN3.out.cell 2
      have hfroz := HN3.out.frozen 2
      have HP := Lib.hid (show numberTermP l = .ok (T.mk 5 e0 (-a3) (hdT l).place [], l3) by unfold numberTermP; exact ((cond_t HIi.out _ _)).trans ((bd_ok H3.out _)))
      go_wp2_with (first | ((with_reducible refine at_ld 39 (.tmp 3) ?_); refine wpList_load_blk rfl 39 (.tmp 3) rfl w1.heap.size (nodeCells (T.mk 5 e0 (-a3) (hdT l).place []) (.slice none 0 0)) rfl (show Blk _ w1.heap.size (nodeCells (T.mk 5 e0 (-a3) (hdT l).place []) (.slice none 0 0)) 39 from (HN3.out.setSame 2 (.int .i64 (-a3)))) Tryd.underlying39 rfl Tryd.sizeNode ?_) | ((with_reducible refine at_st 39 (.tmp 2) ?_); refine wpList_store_blk rfl 39 (.tmp 2) (.tmp 17) rfl w.heap.size (nodeCells (T.mk 5 e0 (-a3) (hdT l).place []) (.slice none 0 0)) rfl rfl (HB3.out.setOther ⟨w1.heap.size, 2, none⟩ _ (by show _ ≠ w1.heap.size; omega)) Tryd.sizeNode rfl (nodeCells_one _ _ rfl) ?_))
      exact ret_blk (cs := nodeCells (T.mk 5 e0 (-a3) (hdT l).place []) (.slice none 0 0)) Tryd.results81 rfl (HB3.out.setOther ⟨w1.heap.size, 2, none⟩ _ (by show _ ≠ w1.heap.size; omega)) Tryd.underlying39 rfl Tryd.sizeNode rfl (Run.node (HR3.out.setCell (a := ⟨w1.heap.size, 2, none⟩) (by show w.heap.size ≤ w1.heap.size; omega) _) ((KAt.nil _ _ _).tat _ _ _ _) HP.out (by have := HL0.out; have := HL3.out; first | omega | (simp only [List.length_tail] at *; omega)))

set_option maxRecDepth 100000 in
set_option maxHeartbeats 1000000 in
theorem term_any {E : Env} {w : World} {l : List Tok} {d : Nat} (h : PSt E w l d) :
    Calls Tryd.prog 78 #[.pointer (some ⟨E.pb, 0, none⟩)] w (PPost VNode E w l d (termP l)) := by
  have HR0 := Lib.hid ((Run.start h).alloc (.cells zeroNodeCells.toArray 39))
  have HB0 := Lib.hid (Blk.new w zeroNodeCells 39)
  have HL0 := Lib.hid (tail_lt h)
  have hlo := h.plt
  have hlt := h.tlt
  have hln := h.len
  clear h
  go_enter Tryd.func78, Tryd.ntmps78
  go_wp2_with fail
  refine (peek_any HR0.out.st).mono ?_
  rintro e w1 ⟨rfl, hb⟩
  have HR1 := Lib.hid (HR0.out.below hb)
  have hzR1 := HR1.out.size
  have HB1 := Lib.hid (HB0.out.kp (Kp.of_below (pb := E.pb) hb) (by omega))
  have hzHB1 := HB1.out.lt
  clear hb
  unfold tokV
  have fl0 := fldTok0
  have fl1 := fldTok1
  have fl3 := fldTok3
  by_cases hkd : (hdT l).kind = 1
  ·
    have HI := Lib.hid (show ((hdT l).kind == 1) = true by rw [hkd]; rfl)
    have hne : (((hdT l).kind : Int) != 1) = false := by rw [hkd]; rfl
    clear hkd
    go_wp2_with fail
    refine (nameTerm_any HR1.out.st).mono ?_
    intro e w2 hp
    cases hr : nameTermP l with
    | error pc =>
      obtain ⟨p, c⟩ := pc
      obtain ⟨rfl, hk, hcd⟩ := hp.err hr
      have HK := Lib.hid (HR1.out.kp.trans hk)
      have HP := Lib.hid (show termP l = .error (p, c) by unfold termP; exact ((cond_t HI.out _ _)).trans ((bd_err hr _)))
      clear hr hp hk
      go_wp2
      exact ⟨rfl, Run.err HK.out HP.out hcd⟩
    | ok q =>
      obtain ⟨a2, l2⟩ := q
      obtain ⟨v2, rfl, hv, hs, hl, hk⟩ := hp.ok hr
      obtain ⟨kv2, rfl, ht⟩ := hv
      have HT2 := Lib.hid (ht.weak HB1.out.lt)
      have HR2 := Lib.hid (HR1.out.call hk hs)
      have hzR2 := HR2.out.size
      have HB2 := Lib.hid (HB1.out.kp hk (by omega))
      have hzHB2 := HB2.out.lt
      have HL2 := Lib.hid hl
      have H2 := Lib.hid hr
      clear hr hp hs hl hk ht
      unfold NodeV
      go_wp2_with ((with_reducible refine at_st 39 (.tmp 3) ?_); refine wpList_store_new rfl 39 (.tmp 3) (.tmp 13) rfl (nodeCells (a2) (kv2)) (old := zeroNodeCells) rfl rfl Tryd.sizeNode rfl (nodeCells_one _ _ HT2.out.kat.one) ?_)
      go_wp2_with fail
      refine (acceptSum_any (HR2.out.alloc _).st).mono ?_
      intro e w3 hp
      rcases hp with ⟨hS0, rfl, hs, hk⟩ | ⟨kk, ff, hS0, hf, rfl, hs, hk⟩
      ·
        have HR3 := Lib.hid ((HR2.out.alloc _).call hk hs)
        have hzR3 := HR3.out.size
        have HB3 := Lib.hid ((HB2.out.alloc _).kp hk (by omega))
        have hzHB3 := HB3.out.lt
        have HN3 := Lib.hid ((Blk.new w2 (nodeCells (a2) (kv2)) 39).kp hk (by first | omega | (have := HR0.out.size; simp at *; omega)))
        have hzHN3 := HN3.out.lt
        have HT2_3 := Lib.hid ((HT2.out.alloc _).kp hk (fun b hb => by omega))
        have HS := Lib.hid hS0
        clear hS0 hs hk
        have HP := Lib.hid (show termP l = .ok (a2, l2) by unfold termP; exact ((cond_t HI.out _ _)).trans (((bd_ok H2.out _)).trans ((sumK_none HS.out _ _))))
        go_wp2_with (first | ((with_reducible refine at_ld 39 (.tmp 3) ?_); refine wpList_load_blk rfl 39 (.tmp 3) rfl w2.heap.size (nodeCells (a2) (kv2)) rfl (show Blk _ w2.heap.size (nodeCells (a2) (kv2)) 39 from (HN3.out.alloc _)) Tryd.underlying39 rfl Tryd.sizeNode ?_) | ((with_reducible refine at_st 39 (.tmp 2) ?_); refine wpList_store_blk rfl 39 (.tmp 2) (.tmp 26) rfl w.heap.size (nodeCells (a2) (kv2)) rfl rfl (HB3.out.alloc _) Tryd.sizeNode rfl (nodeCells_one _ _ HT2.out.kat.one) ?_))
        exact ret_blk (cs := nodeCells (a2) (kv2)) Tryd.results78 rfl (HB3.out.alloc _) Tryd.underlying39 rfl Tryd.sizeNode rfl (Run.node (HR3.out.alloc _) (HT2_3.out.alloc _).lo HP.out (by have := HL2.out; first | omega | (simp only [List.length_tail] at *; omega)))
      ·
        have HR3 := Lib.hid ((HR2.out.alloc _).call hk hs)
        have hzR3 := HR3.out.size
        have HB3 := Lib.hid ((HB2.out.alloc _).kp hk (by omega))
        have hzHB3 := HB3.out.lt
        have HN3 := Lib.hid ((Blk.new w2 (nodeCells (a2) (kv2)) 39).kp hk (by first | omega | (have := HR0.out.size; simp at *; omega)))
        have hzHN3 := HN3.out.lt
        have HT2_3 := Lib.hid ((HT2.out.alloc _).kp hk (fun b hb => by omega))
        have HS := Lib.hid hS0
        clear hS0 hs hk
        have HF := Lib.hid hf
        clear hf
        go_wp2_with fail
        refine AnyE.begin2 (S := fun W => Blk W w3.heap.size [.int .i64 kk, .int .i64 ff] 118) (by kernel_rfl) ((Blk.new w3 [.int .i64 kk, .int .i64 ff] 118).drew) (fun hS => ?_)
        refine AnyE.take (i := 0) (v := .pointer (some ⟨w3.heap.size, 1, none⟩)) rfl (by kernel_rfl) (by kernel_rfl) (by kernel_rfl) (by kernel_rfl) (fun _ _ _ h => h) (Or.inl ⟨by rfl, fun W _ => by go_simp⟩) hS ?_
        refine AnyE.take (i := 1) (v := .int .i64 ff) rfl (by kernel_rfl) (by kernel_rfl) (by kernel_rfl) (by kernel_rfl) (fun _ _ _ h => h) (Or.inl ⟨by rfl, fun W hW => by have hc1 : W.cell? ⟨w3.heap.size, 1, none⟩ = some (.int .i64 ff) := hW.cell 1; go_simp⟩) hS ?_
        refine AnyE.take (i := 2) (v := .pointer (some ⟨E.pb, 0, none⟩)) rfl (by kernel_rfl) (by kernel_rfl) (by kernel_rfl) (by kernel_rfl) (fun _ _ _ h => h) (Or.inl ⟨by rfl, fun W _ => by go_simp⟩) hS ?_
        refine AnyE.one (i := 3) (by kernel_rfl) rfl (by rfl) (fun K hK => ?_)
        go_simp
        refine (number_any ((HR3.out.alloc _).drew).st).mono ?_
        intro e w4 hp
        cases hr : numberP l2.tail with
        | error pc =>
          obtain ⟨p, c⟩ := pc
          obtain ⟨rfl, hk, hcd⟩ := hp.err hr
          have HK := Lib.hid (((HR3.out.alloc _).drew).kp.trans hk)
          have HP := Lib.hid (show termP l = .error (p, c) by unfold termP; exact ((cond_t HI.out _ _)).trans (((bd_ok H2.out _)).trans (((sumK_some HS.out _ _)).trans ((bd_err hr _)))))
          clear hr hp hk
          go_wp2
          exact ⟨rfl, Run.err HK.out HP.out hcd⟩
        | ok q =>
          obtain ⟨a4, l4⟩ := q
          obtain ⟨v4, rfl, hv, hs, hl, hk⟩ := hp.ok hr
          obtain ⟨rfl, hn0, hn1⟩ := hv
          have HR4 := Lib.hid (((HR3.out.alloc _).drew).call hk hs)
          have hzR4 := HR4.out.size
          have HB4 := Lib.hid (((HB3.out.alloc _).drew).kp hk (by omega))
          have hzHB4 := HB4.out.lt
          have HN4 := Lib.hid (((HN3.out.alloc _).drew).kp hk (by first | omega | (have := HR0.out.size; simp at *; omega)))
          have hzHN4 := HN4.out.lt
          have HS_4 := Lib.hid (((Blk.new w3 [.int .i64 kk, .int .i64 ff] 118).drew).kp hk (by first | omega | (have := HR0.out.size; simp at *; omega)))
          have hzHS_4 := HS_4.out.lt
          have HT2_4 := Lib.hid (((HT2_3.out.alloc _).drew).kp hk (fun b hb => by omega))
          have HL4 := Lib.hid hl
          have H4 := Lib.hid hr
          clear hr hp hs hl hk 
          refine hK.out _ _ (fun _ => HS_4.out) ?_
          clear hK K
          have hwr : IntKind.i64.wrap (ff * a4) = ff * a4 := by
            have h1 : ff * a4 = a4 ∨ ff * a4 = -a4 := by rcases HF.out with rfl | rfl; exact .inl (by omega); exact .inr (by omega)
            refine IntWalk.i64_in _ ?_
            rcases h1 with h1 | h1 <;> rw [h1] <;> omega
          refine AnyE.one (i := 4) (by kernel_rfl) rfl (by rfl) (fun K hK => ?_)
          go_simp
          refine hK.out _ _ (fun _ => HS_4.out) ?_
          clear hK K
          refine AnyE.one (i := 5) (by kernel_rfl) rfl (by rfl) (fun K hK => ?_)
          go_simp
          refine hK.out _ _ (fun _ => HS_4.out) ?_
          clear hK K
          refine AnyE.one (i := 6) (by kernel_rfl) rfl (by rfl) (fun K hK => ?_)
          have hcell : _root_.Go.World.cell? _ ⟨w2.heap.size, 2, none⟩ = some (.int .i64 a2.num) := HN4.out.cell 2
          have hfroz := HN4.out.frozen 2
          go_simp
          refine hK.out _ _ (fun h => absurd rfl h) ?_
          clear hK K
          refine AnyE.done (by kernel_rfl) ?_ _
          have HP := Lib.hid (show termP l = .ok (a2.setNum (ff * a4), l4) by unfold termP; exact ((cond_t HI.out _ _)).trans (((bd_ok H2.out _)).trans (((sumK_some HS.out _ _)).trans ((bd_ok H4.out _)))))
          go_wp2_with (first | ((with_reducible refine at_ld 39 (.tmp 3) ?_); refine wpList_load_blk rfl 39 (.tmp 3) rfl w2.heap.size (nodeCells (a2.setNum (ff * a4)) (kv2)) rfl (show Blk _ w2.heap.size (nodeCells (a2.setNum (ff * a4)) (kv2)) 39 from (by rw [← nodeCells_setNum]; exact (HN4.out.setSame 2 (.int .i64 (ff * a4))))) Tryd.underlying39 rfl Tryd.sizeNode ?_) | ((with_reducible refine at_st 39 (.tmp 2) ?_); refine wpList_store_blk rfl 39 (.tmp 2) (.tmp 26) rfl w.heap.size (nodeCells (a2.setNum (ff * a4)) (kv2)) rfl rfl (HB4.out.setOther ⟨w2.heap.size, 2, none⟩ _ (by show _ ≠ w2.heap.size; omega)) Tryd.sizeNode rfl (nodeCells_one _ _ HT2.out.kat.one) ?_))
          exact ret_blk (cs := nodeCells (a2.setNum (ff * a4)) (kv2)) Tryd.results78 rfl (HB4.out.setOther ⟨w2.heap.size, 2, none⟩ _ (by show _ ≠ w2.heap.size; omega)) Tryd.underlying39 rfl Tryd.sizeNode rfl (Run.node (HR4.out.setCell (a := ⟨w2.heap.size, 2, none⟩) (by show w.heap.size ≤ w2.heap.size; omega) _) (TAt.of_kids (by cases a2; exact (HT2_4.out.setCell ⟨w2.heap.size, 2, none⟩ _ (fun b hb => by show _ ≠ w2.heap.size; omega)).lo.kat)) HP.out (by have := HL2.out; have := HL4.out; first | omega | (simp only [List.length_tail] at *; omega)))
  ·
    have HI := Lib.hid (show ((hdT l).kind == 1) = false from beq_eq_false_iff_ne.2 hkd)
    have hne : (((hdT l).kind : Int) != 1) = true := by simp; omega
    clear hkd
    go_wp2_with fail
    refine (numberTerm_any HR1.out.st).mono ?_
    intro e w2 hp
    cases hr : numberTermP l with
    | error pc =>
      obtain ⟨p, c⟩ := pc
      obtain ⟨rfl, hk, hcd⟩ := hp.err hr
      have HK := Lib.hid (HR1.out.kp.trans hk)
      have HP := Lib.hid (show termP l = .error (p, c) by unfold termP; exact ((cond_f HI.out _ _)).trans (hr))
      clear hr hp hk
      go_wp2
      exact ⟨rfl, Run.err HK.out HP.out hcd⟩
    | ok q =>
      obtain ⟨a2, l2⟩ := q
      obtain ⟨v2, rfl, hv, hs, hl, hk⟩ := hp.ok hr
      obtain ⟨kv2, rfl, ht⟩ := hv
      have HT2 := Lib.hid (ht.weak HB1.out.lt)
      have HR2 := Lib.hid (HR1.out.call hk hs)
      have hzR2 := HR2.out.size
      have HB2 := Lib.hid (HB1.out.kp hk (by omega))
      have hzHB2 := HB2.out.lt
      have HL2 := Lib.hid hl
      have H2 := Lib.hid hr
      clear hr hp hs hl hk ht
      unfold NodeV
      have HP := Lib.hid (show termP l = .ok (a2, l2) by unfold termP; exact ((cond_f HI.out _ _)).trans (H2.out))
      go_wp2_with ((with_reducible refine at_st 39 (.tmp 2) ?_); refine wpList_store_blk rfl 39 (.tmp 2) (.tmp 11) rfl w.heap.size (nodeCells (a2) (kv2)) rfl rfl HB2.out Tryd.sizeNode rfl (nodeCells_one _ _ HT2.out.kat.one) ?_)
      exact ret_blk (cs := nodeCells (a2) (kv2)) Tryd.results78 rfl HB2.out Tryd.underlying39 rfl Tryd.sizeNode rfl (Run.node HR2.out HT2.out.lo HP.out (by have := HL2.out; first | omega | (simp only [List.length_tail] at *; omega)))
end

end Go.Proofs.YtdkdidgeaalcgaaDoor
