/- The contracts of syntax.sums (the map of the signs of a sum) and of the parser's acceptSum, which goes through that map in whatever order. -/
import Derived.Test.YtnmpfpnldcgbaaaDoorP09
import Derived.Maps.RangeRun
import Derived.MapKept
namespace Go.Proofs.YtnmpfpnldcgbaaaDoor
open Go.RowKit
open Go.ChangeMaps (setBlock)

theorem setBlock_new (w : World) (o o' : Obj) : setBlock (w.alloc o) w.heap.size o' = w.alloc o' := by
  unfold setBlock
  show ({ w.alloc o with heap := (w.heap.push o).setIfInBounds w.heap.size o' } : World) = _
  have hp : (w.heap.push o).setIfInBounds w.heap.size o' = w.heap.push o' := by
    apply Array.toList_inj.1
    simp
  rw [hp]
  rfl

theorem run_put {P : Program} {w : World} {t kt et : TypeId} {r : Nat} {es : Array MapEntry} {clock : Nat} {k : ByteArray} {v : Value} (ht : P.underlying t = some (.map kt et)) (hk : P.underlying kt = some .string)
    (hb : w.heap[r]? = some (.map es clock)) (hf : Instr.findNow .string (.string k) es.toList 0 = some none) :
    (Instr.mapUpdate t (.map (some r)) (.string k) v).run P w = .ok () (setBlock w r (.map (es.push ⟨.string k, v, clock⟩) (clock + 1))) := by
  have h1 := MapKept.run_checkKey (P := P) (w := w) (k := .string k) hk (by first | exact trivial | exact ⟨_, rfl⟩ | rfl | simp [MapKept.IsKey]) false 9999
  have h2 := MapKept.run_findKey (P := P) (w := w) (kt := kt) (k := .string k) (l := es.toList) hk hf
  have h3 := MapKept.run_getObj_map (P := P) (w := w) hb
  have h4 : ∀ o', (setObj r o').run P w = .ok () (setBlock w r o') := fun o' => by simp [setObj, Sem.run, hb, setBlock]
  simp [Instr.mapUpdate, run_underlying ht, h1, h2, h3, h4]

def plusE : MapEntry := ⟨.string ⟨#[43]⟩, .agg #[.int .i64 21, .int .i64 1], 0⟩
def minusE : MapEntry := ⟨.string ⟨#[45]⟩, .agg #[.int .i64 22, .int .i64 (-1)], 1⟩
def sumEs : Array MapEntry := #[plusE, minusE]

set_option maxRecDepth 100000 in
set_option maxHeartbeats 400000 in
theorem sums_any (w : World) : Calls Tryd.prog 128 #[] w fun e w' => e = .returned (.map (some w.heap.size)) ∧ w' = w.alloc (.map sumEs 2) := by
  have h1 : (Instr.mapUpdate 152 (.map (some w.heap.size)) (.string ⟨#[43]⟩) (.agg #[.int .i64 21, .int .i64 1])).run Tryd.prog (w.alloc (.map #[] 0)) = .ok () (w.alloc (.map #[plusE] 1)) := by
    have := run_put (P := Tryd.prog) (w := w.alloc (.map #[] 0)) (r := w.heap.size) (es := #[]) (clock := 0) (k := ⟨#[43]⟩) (v := .agg #[.int .i64 21, .int .i64 1]) Tryd.underlying152 Tryd.underlying9 (heap_alloc_new w _) rfl
    rw [setBlock_new] at this
    exact this
  have h2 : (Instr.mapUpdate 152 (.map (some w.heap.size)) (.string ⟨#[45]⟩) (.agg #[.int .i64 22, .int .i64 (-1)])).run Tryd.prog (w.alloc (.map #[plusE] 1)) = .ok () (w.alloc (.map sumEs 2)) := by
    have := run_put (P := Tryd.prog) (w := w.alloc (.map #[plusE] 1)) (r := w.heap.size) (es := #[plusE]) (clock := 1) (k := ⟨#[45]⟩) (v := .agg #[.int .i64 22, .int .i64 (-1)]) Tryd.underlying152 Tryd.underlying9 (heap_alloc_new w _) (by kernel_rfl)
    rw [setBlock_new] at this
    exact this
  have h0 : (Instr.makeMap 152 none).run Tryd.prog w = .ok (.map (some w.heap.size)) (w.alloc (.map #[] 0)) := rfl
  go_enter Tryd.func128, Tryd.ntmps128
  go_wp2
  go_ret
  exact ⟨rfl, rfl⟩

theorem heap_setBlock (w : World) (r k : Nat) (o : Obj) (h : k ≠ r) : (setBlock w r o).heap[k]? = w.heap[k]? := by
  unfold setBlock
  simp [Ne.symm h]
theorem heap_setBlock_same (w : World) (r : Nat) (o : Obj) (h : r < w.heap.size) : (setBlock w r o).heap[r]? = some o := by
  unfold setBlock
  simp [h]
theorem Run.setBlock {E : Env} {w W : World} {l : List Tok} {d : Nat} (h : Run E w W l d) {r : Nat} (hr : w.heap.size ≤ r) (o : Obj) : Run E w (ChangeMaps.setBlock W r o) l d :=
  ⟨⟨h.kp.os, h.kp.tape, h.kp.output, by simpa [ChangeMaps.setBlock] using h.kp.size, fun k hk hn => (heap_setBlock W r k o (by omega)).trans (h.kp.block k hk hn)⟩,
   h.st.same (by simp [ChangeMaps.setBlock]) (heap_setBlock _ _ _ _ (by have := h.lo; omega)) (heap_setBlock _ _ _ _ (by have := h.lt; omega)), h.lo, h.lt⟩
theorem Run.drew {E : Env} {w W : World} {l : List Tok} {d : Nat} (h : Run E w W l d) : Run E w W.drew l d := ⟨h.kp.drew, h.st.same (Nat.le_refl _) rfl rfl, h.lo, h.lt⟩

theorem sumEs_mem {e : MapEntry} (h : e ∈ sumEs.toList) : e = plusE ∨ e = minusE := by
  simpa [sumEs] using h
theorem left_mem {e : MapEntry} {seen : Array Nat} (h : e ∈ (leftOf sumEs seen).toList) : e ∈ sumEs.toList ∧ e.born ∉ seen := by
  simp only [leftOf, Array.toList_filter, List.mem_filter] at h
  exact ⟨h.1, by simpa using h.2⟩
theorem left_none {seen : Array Nat} (h : (leftOf sumEs seen).size = 0) : 0 ∈ seen ∧ 1 ∈ seen := by
  have h0 : leftOf sumEs seen = #[] := Array.eq_empty_of_size_eq_zero h
  unfold leftOf at h0
  rw [Array.filter_eq_empty_iff] at h0
  have h1 := h0 plusE (by simp [sumEs])
  have h2 := h0 minusE (by simp [sumEs])
  exact ⟨by simpa [plusE] using h1, by simpa [minusE] using h2⟩
theorem left_size (seen : Array Nat) : (leftOf sumEs seen).size = (sumEs.toList.filter fun x => !seen.contains x.born).length := by
  unfold leftOf
  rw [← Array.toList_filter, Array.length_toList]
theorem left_push {e : MapEntry} {seen : Array Nat} (h : e ∈ (leftOf sumEs seen).toList) : (leftOf sumEs (seen.push e.born)).size < (leftOf sumEs seen).size := by
  have hm := left_mem h
  rw [left_size, left_size]
  refine filter_lt (fun x : MapEntry => !seen.contains x.born) (fun x : MapEntry => !(seen.push e.born).contains x.born) (fun x hx => ?_) e (by simpa using hm.2) (by simp) sumEs.toList hm.1
  simp at hx ⊢
  exact hx.1

/- What holds at the head of each round: the signs that were gone through are not the next token. -/
def SumRel (E : Env) (w : World) (l : List Tok) (d : Nat) (g : Nat) (wr : World) : Prop :=
  ∃ seen : Array Nat, Run E w wr l d ∧ Blk wr w.heap.size [.int .i64 0, .int .i64 0] 148 ∧ wr.heap[w.heap.size + 1]? = some (.map sumEs 2) ∧ wr.heap[w.heap.size + 2]? = some (.mapIter (some (w.heap.size + 1)) 2 seen 2) ∧
    (0 ∈ seen → isT (hdT l) (bs [43]) = false) ∧ (1 ∈ seen → isT (hdT l) (bs [45]) = false) ∧ (leftOf sumEs seen).size ≤ g

def SumPost (E : Env) (w : World) (l : List Tok) (d : Nat) (e : Ending) (w' : World) : Prop :=
  (sumP l = none ∧ e = .returned (.tuple #[.agg #[.int .i64 0, .int .i64 0], .bool false]) ∧ PSt E w' l d ∧ Kp E.pb w w') ∨
  ∃ k f, sumP l = some (k, f) ∧ (f = 1 ∨ f = -1) ∧ e = .returned (.tuple #[.agg #[.int .i64 k, .int .i64 f], .bool true]) ∧ PSt E w' l.tail d ∧ Kp E.pb w w'

theorem ret_blk2 {P : Program} {fn : Func} {s u : Tmp} {ty t : TypeId} (h : fn.results = #[.cell s ty, .tmp u]) {a : Act} {W : World} {g : Nat} {old cs : List Value} {d : TypeDesc} {R : Ending → World → Prop} {x : Value} (hs : a.tmps.getD s undef = .pointer (some ⟨g, 0, none⟩))
    (hb : Blk W g old t) (hu : P.underlying ty = some d) (hd : d.isRow = true) (hi : (P.info? ty).map (·.size) = some cs.length) (hx : a.tmps.getD u undef = x) (hdf : a.defers = []) (hR : R (.returned (.tuple #[.agg cs.toArray, x])) (W.setRow g cs.toArray)) :
    bodyPost P fn R .ret a (W.setRow g cs.toArray) := by
  refine bodyPost_ret ?_ hdf hR
  have hl := run_loadVar_mid (P := P) (W.setRow g cs.toArray) g 0 ty cs d (fun j v hj => by rw [Nat.zero_add, (hb.rowSame cs).cell j]; exact hj) hu hd hi
  have hs' : a.tmps[s]?.getD undef = .pointer (some ⟨g, 0, none⟩) := by rw [← hs]; simp
  have hx' : a.tmps[u]?.getD undef = x := by rw [← hx]; simp
  simp [results, h, hs', asAddr, hl, hx']

theorem isT_inj {t : Tok} {s s' : ByteArray} (h : isT t s = true) (h' : isT t s' = true) : s.toList = s'.toList := by
  unfold isT at h h'
  rw [← beq_iff_eq.1 h, ← beq_iff_eq.1 h']

theorem Tryd.sizeSum : (Tryd.prog.info? 148).map (·.size) = some 2 := by kernel_rfl

set_option maxRecDepth 100000 in
set_option maxHeartbeats 1000000 in
theorem acceptSum_any {E : Env} {w : World} {l : List Tok} {d : Nat} (h : PSt E w l d) :
    Calls Tryd.prog 123 #[.pointer (some ⟨E.pb, 0, none⟩)] w (SumPost E w l d) := by
  have HR0 := Lib.hid ((((Run.start h).alloc (.cells #[.int .i64 0, .int .i64 0] 148)).alloc (.map sumEs 2)).alloc (.mapIter (some (w.heap.size + 1)) 2 #[] 2))
  have HB0 := Lib.hid (((Blk.new w [.int .i64 0, .int .i64 0] 148).alloc (.map sumEs 2)).alloc (.mapIter (some (w.heap.size + 1)) 2 #[] 2))
  have hlo := h.plt
  have hlt := h.tlt
  have hln := h.len
  clear h
  have hrg := run_range_map (P := Tryd.prog) ((w.alloc (.cells #[.int .i64 0, .int .i64 0] 148)).alloc (.map sumEs 2)) 152 9 148 (w.heap.size + 1) sumEs 2 Tryd.underlying152
    (by have := heap_alloc_new (w.alloc (.cells #[.int .i64 0, .int .i64 0] 148)) (.map sumEs 2); simpa using this)
  rw [show ((w.alloc (.cells #[.int .i64 0, .int .i64 0] 148)).alloc (.map sumEs 2)).heap.size = w.heap.size + 2 by simp] at hrg
  go_enter Tryd.func123, Tryd.ntmps123
  go_wp2_with fail
  refine (sums_any _).mono ?_
  rintro e w1 ⟨rfl, rfl⟩
  go_wp2_with fail
  clear hrg
  go_loopg [4] 2 (fun g _ wr => SumRel E w l d g wr)
  case atStart =>
    refine ⟨#[], HR0.out, HB0.out, ?_, ?_, by simp, by simp, by rw [left_size]; exact Nat.le_trans (List.length_filter_le _ _) (Nat.le_refl _)⟩
    · have := heap_alloc_new (w.alloc (.cells #[.int .i64 0, .int .i64 0] 148)) (.map sumEs 2)
      rw [Below.heap_alloc _ _ _ (by simp)]
      simpa using this
    · have := heap_alloc_new ((w.alloc (.cells #[.int .i64 0, .int .i64 0] 148)).alloc (.map sumEs 2)) (.mapIter (some (w.heap.size + 1)) 2 #[] 2)
      simpa using this
  case round =>
    obtain ⟨seen, hR, hB, hm, hi, h0, h1, hg⟩ := hrel
    have law := run_next_at (P := Tryd.prog) wr 0 (w.heap.size + 2) (w.heap.size + 1) 2 2 seen sumEs 2 hi hm (by intro x hx; rcases sumEs_mem hx with rfl | rfl <;> decide) (Nat.le_refl _)
    have HR := Lib.hid hR
    have HB := Lib.hid hB
    have HM := Lib.hid hm
    have HI := Lib.hid hi
    have HH0 := Lib.hid h0
    have HH1 := Lib.hid h1
    have hsz : w.heap.size + 2 < wr.heap.size := (Array.getElem?_eq_some_iff.1 hi).1
    clear hR hB hm hi h0 h1 HR0 HB0
    rcases law with ⟨hz, hrun⟩ | ⟨e, he, w1, hal, hrun⟩
    · have hnx : ∀ ty, (Instr.next (.pointer (some ⟨w.heap.size + 2, 0, none⟩)) false ty).run Tryd.prog wr = _ := fun _ => hrun
      have HP := Lib.hid (show sumP l = none by unfold sumP; rw [HH0.out (left_none hz).1, HH1.out (left_none hz).2]; rfl)
      clear hrun hz hg
      go_wp2_with ((with_reducible refine at_st 148 (.tmp 2) ?_); refine wpList_store_blk rfl 148 (.tmp 2) (.tmp 17) rfl w.heap.size [.int .i64 0, .int .i64 0] rfl rfl HB.out Tryd.sizeSum rfl (by simp [Value.oneCell']) ?_)
      exact ret_blk2 (cs := [.int .i64 0, .int .i64 0]) Tryd.results123 rfl HB.out Tryd.underlying148 rfl Tryd.sizeSum rfl rfl
        (.inl ⟨HP.out, rfl, (HR.out.setRow (Nat.le_refl _) _).st, (HR.out.setRow (Nat.le_refl _) _).kp⟩)
    · have hmem := left_mem he
      have HW := Lib.hid (left_push he)
      have hR1 : Run E w w1 l d := hal.elim (fun e => e ▸ HR.out) (fun e => e ▸ HR.out.drew)
      have hB1 : Blk w1 w.heap.size [.int .i64 0, .int .i64 0] 148 := hal.elim (fun e => e ▸ HB.out) (fun e => e ▸ HB.out)
      have hM1 : w1.heap[w.heap.size + 1]? = some (.map sumEs 2) := hal.elim (fun e => e ▸ HM.out) (fun e => e ▸ HM.out)
      have hI1 : w.heap.size + 2 < w1.heap.size := hal.elim (fun e => e ▸ hsz) (fun e => e ▸ hsz)
      generalize hw2 : setBlock w1 (w.heap.size + 2) (.mapIter (some (w.heap.size + 1)) 2 (seen.push e.born) 2) = w2 at hrun
      have hR2 : Run E w w2 l d := by rw [← hw2]; exact hR1.setBlock (by omega) _
      have hB2 : Blk w2 w.heap.size [.int .i64 0, .int .i64 0] 148 := by rw [← hw2]; exact (heap_setBlock _ _ _ _ (by omega)).trans hB1
      have hM2 : w2.heap[w.heap.size + 1]? = some (.map sumEs 2) := by rw [← hw2]; exact (heap_setBlock _ _ _ _ (by omega)).trans hM1
      have hI2 : w2.heap[w.heap.size + 2]? = some (.mapIter (some (w.heap.size + 1)) 2 (seen.push e.born) 2) := by rw [← hw2]; exact heap_setBlock_same _ _ _ hI1
      have hent := run_entry_at (P := Tryd.prog) w2 (w.heap.size + 2) (w.heap.size + 1) 2 seen sumEs 2 e hI2 hM2 hmem.1 (by decide)
      have hnx : ∀ ty, (Instr.next (.pointer (some ⟨w.heap.size + 2, 0, none⟩)) false ty).run Tryd.prog wr = _ := fun _ => hrun
      have HR2 := Lib.hid hR2
      have HB2 := Lib.hid hB2
      have HM2 := Lib.hid hM2
      have HI2 := Lib.hid hI2
      have HG := Lib.hid hg
      have hsz2 : w.heap.size < w2.heap.size := hB2.lt
      clear hrun hw2 hR2 hB2 hM2 hI2 hR1 hB1 hM1 hI1 hal hg HR HB HM HI he w1
      rcases sumEs_mem hmem.1 with rfl | rfl
      · clear hmem
        unfold plusE at hent hnx HI2 HW
        simp only [] at hent hnx HI2 HW
        cases hi : isT (hdT l) (bs [43]) with
        | false =>
          have HN := Lib.hid hi
          clear hi
          go_wp2_with fail
          refine (accept_no (HR2.out.alloc _).st HN.out).mono ?_
          rintro e w3 ⟨rfl, hb⟩
          have HR3 := Lib.hid ((HR2.out.alloc _).below hb)
          have HB3 := Lib.hid ((HB2.out.alloc _).kp (Kp.of_below (pb := E.pb) hb) (by omega))
          have HM3 := Lib.hid ((hb.block _ (by have := (Array.getElem?_eq_some_iff.1 HM2.out).1; simp; omega)).trans ((Below.heap_alloc _ _ _ (Array.getElem?_eq_some_iff.1 HM2.out).1).trans HM2.out))
          have HI3 := Lib.hid ((hb.block _ (by have := (Array.getElem?_eq_some_iff.1 HI2.out).1; simp; omega)).trans ((Below.heap_alloc _ _ _ (Array.getElem?_eq_some_iff.1 HI2.out).1).trans HI2.out))
          clear hb hent hnx
          go_wp2
          go_roundg (gk - 1)
          case measure => have := HG.out; have := HW.out; omega
          case rel => exact ⟨seen.push 0, HR3.out, HB3.out, HM3.out, HI3.out, fun _ => HN.out, fun hx => HH1.out (by simpa using hx), by have := HG.out; have := HW.out; omega⟩
        | true =>
          have HN := Lib.hid hi
          have HP := Lib.hid (show sumP l = some (21, 1) by unfold sumP; rw [HN.out]; rfl)
          clear hi
          go_wp2_with fail
          refine (accept_yes (HR2.out.alloc _).st HN.out (by decide)).mono ?_
          rintro e w3 ⟨rfl, hs, hk⟩
          have HR3 := Lib.hid ((HR2.out.alloc _).call hk hs)
          have HB3 := Lib.hid ((HB2.out.alloc _).kp hk (by omega))
          have HC3 := Lib.hid ((Blk.new w2 [.int .i64 21, .int .i64 (1)] 148).kp hk (by omega))
          clear hs hk hent hnx
          go_wp2_with (first | ((with_reducible refine at_ld 148 (.tmp 5) ?_); refine wpList_load_blk rfl 148 (.tmp 5) rfl w2.heap.size [.int .i64 21, .int .i64 (1)] rfl HC3.out Tryd.underlying148 rfl Tryd.sizeSum ?_) | ((with_reducible refine at_st 148 (.tmp 2) ?_); refine wpList_store_blk rfl 148 (.tmp 2) (.tmp 16) rfl w.heap.size [.int .i64 21, .int .i64 (1)] rfl rfl HB3.out Tryd.sizeSum rfl (by simp [Value.oneCell']) ?_))
          (try rw [Exit.noGoto_ret])
          exact ret_blk2 (cs := [.int .i64 21, .int .i64 (1)]) Tryd.results123 rfl HB3.out Tryd.underlying148 rfl Tryd.sizeSum rfl rfl
            (.inr ⟨21, 1, HP.out, by omega, rfl, (HR3.out.setRow (Nat.le_refl _) _).st, (HR3.out.setRow (Nat.le_refl _) _).kp⟩)
      · clear hmem
        unfold minusE at hent hnx HI2 HW
        simp only [] at hent hnx HI2 HW
        cases hi : isT (hdT l) (bs [45]) with
        | false =>
          have HN := Lib.hid hi
          clear hi
          go_wp2_with fail
          refine (accept_no (HR2.out.alloc _).st HN.out).mono ?_
          rintro e w3 ⟨rfl, hb⟩
          have HR3 := Lib.hid ((HR2.out.alloc _).below hb)
          have HB3 := Lib.hid ((HB2.out.alloc _).kp (Kp.of_below (pb := E.pb) hb) (by omega))
          have HM3 := Lib.hid ((hb.block _ (by have := (Array.getElem?_eq_some_iff.1 HM2.out).1; simp; omega)).trans ((Below.heap_alloc _ _ _ (Array.getElem?_eq_some_iff.1 HM2.out).1).trans HM2.out))
          have HI3 := Lib.hid ((hb.block _ (by have := (Array.getElem?_eq_some_iff.1 HI2.out).1; simp; omega)).trans ((Below.heap_alloc _ _ _ (Array.getElem?_eq_some_iff.1 HI2.out).1).trans HI2.out))
          clear hb hent hnx
          go_wp2
          go_roundg (gk - 1)
          case measure => have := HG.out; have := HW.out; omega
          case rel => exact ⟨seen.push 1, HR3.out, HB3.out, HM3.out, HI3.out, fun hx => HH0.out (by simpa using hx), fun _ => HN.out, by have := HG.out; have := HW.out; omega⟩
        | true =>
          have HN := Lib.hid hi
          have HP := Lib.hid (show sumP l = some (22, -1) by unfold sumP; rw [HN.out, show isT (hdT l) (bs [43]) = false by cases hc : isT (hdT l) (bs [43]) with | false => rfl | true => exact absurd (isT_inj hc HN.out) (by simp only [ByteArray.toList_eq]; decide)]; rfl)
          clear hi
          go_wp2_with fail
          refine (accept_yes (HR2.out.alloc _).st HN.out (by decide)).mono ?_
          rintro e w3 ⟨rfl, hs, hk⟩
          have HR3 := Lib.hid ((HR2.out.alloc _).call hk hs)
          have HB3 := Lib.hid ((HB2.out.alloc _).kp hk (by omega))
          have HC3 := Lib.hid ((Blk.new w2 [.int .i64 22, .int .i64 (-1)] 148).kp hk (by omega))
          clear hs hk hent hnx
          go_wp2_with (first | ((with_reducible refine at_ld 148 (.tmp 5) ?_); refine wpList_load_blk rfl 148 (.tmp 5) rfl w2.heap.size [.int .i64 22, .int .i64 (-1)] rfl HC3.out Tryd.underlying148 rfl Tryd.sizeSum ?_) | ((with_reducible refine at_st 148 (.tmp 2) ?_); refine wpList_store_blk rfl 148 (.tmp 2) (.tmp 16) rfl w.heap.size [.int .i64 22, .int .i64 (-1)] rfl rfl HB3.out Tryd.sizeSum rfl (by simp [Value.oneCell']) ?_))
          (try rw [Exit.noGoto_ret])
          exact ret_blk2 (cs := [.int .i64 22, .int .i64 (-1)]) Tryd.results123 rfl HB3.out Tryd.underlying148 rfl Tryd.sizeSum rfl rfl
            (.inr ⟨22, -1, HP.out, by omega, rfl, (HR3.out.setRow (Nat.le_refl _) _).st, (HR3.out.setRow (Nat.le_refl _) _).kp⟩)

end Go.Proofs.YtnmpfpnldcgbaaaDoor
