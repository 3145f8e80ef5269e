/- The contracts of mem.Memory's Lock and Unlock, of slices.ContainsFunc over cells, and of Free. -/
import Derived.Test.YtnjndggdnmboeaaMOps2
namespace Go.Proofs.Ytnjndggdnmboeaa
open Go.RowKit

theorem lockS_no {s : MS} {p : MV} (h : lockR s p = false) : lockS s p = s := by unfold lockS; rw [if_neg (by simp [h])]
theorem lockS_yes {s : MS} {p : MV} (h : lockR s p = true) : lockS s p = upd s p (putN (clOf s p) 1) := by unfold lockS; rw [if_pos h]
theorem lockR_no {s : MS} {p : MV} {c : Int} (h : lockW s p = c) (hc : c ≠ 0) : lockR s p = false := by unfold lockR; rw [h]; simp [hc]
theorem lockR_held {s : MS} {p : MV} (hc : (clOf s p).v.n ≠ 0) : lockR s p = false := by unfold lockR; simp [hc]
theorem lockR_yes {s : MS} {p : MV} (h : lockW s p = 0) (hc : (clOf s p).v.n = 0) : lockR s p = true := by unfold lockR; simp [h, hc]

theorem cRow_putN {l : List MC} {j : Nat} {c : MC} (h : l[j]? = some c) (n : Int) : (cRow l).set (j * 5 + 1) (.int .i64 n) = cRow (l.set j (putN c n)) := cRow_set h 1 (by omega) _ _ rfl

set_option maxRecDepth 100000 in
set_option maxHeartbeats 4000000 in
theorem lock_any {w : World} {b : Nat} {s : MS} {O : Nat → Prop} (h0 : MemAt w b s O) (p : MV) :
    Calls Try.prog 14 #[.pointer (some ⟨b, 0, none⟩), .agg #[.int .i64 p.kind, .int .i64 p.n, .int .i64 p.block]] w (MPost b (lockS s p) (.tuple #[.bool (lockR s p), .int .i64 (lockW s p)]) O w) := by
  obtain ⟨v, gs, h, hO⟩ := h0.open
  clear h0
  have H := Lib.hid (h.below ((Below.refl w.heap.size w).alloc (Nat.le_refl _) (.cells #[.int .i64 p.kind, .int .i64 p.n, .int .i64 p.block] 34)))
  clear h
  have HO := Lib.hid hO
  clear hO
  go_enter Try.func14, Try.ntmps14
  go_wp2_with fail
  ((with_reducible refine (lockOf_any H.out p).mono ?_); rintro e w1 ⟨A, rfl, hA, hb1⟩)
  have HA := Lib.hid hA
  have hbelow := Lib.hid (((Below.refl w.heap.size w).alloc (Nat.le_refl _) (.cells #[.int .i64 p.kind, .int .i64 p.n, .int .i64 p.block] 34)).trans (hb1.mono (by simp)))
  have H1 := Lib.hid (H.out.below hb1)
  clear hA hb1
  by_cases h0 : lockW s p = 0
  · obtain ⟨g, hg, rfl⟩ := HA.out h0
    have hC := lockW_ok h0
    obtain ⟨hB, hc⟩ := H1.out.cellRow hC hg
    obtain ⟨_, f1, _⟩ := cell_facts hB hc
    have z1 := hB.frozen (p.n.toNat * 5 + 1)
    have hlt := hB.lt
    have HB := Lib.hid hB
    have HCe := Lib.hid hc
    have HG := Lib.hid hg
    have H0 := Lib.hid h0
    have HC := Lib.hid hC
    clear hB hc hg
    by_cases hn : (clOf s p).v.n = 0
    · have HR := Lib.hid (lockR_yes h0 hn)
      rw [hn] at f1
      rw [h0]
      clear h0 hC hn
      go_wp2
      go_ret2
      rw [HR.out, H0.out]
      refine MPost.upd HO.out H1.out hbelow.out HC.out HG.out (c := putN (clOf s p) 1) ?_ ((Ch.refl _ _).set _ (.inl (show g = g from rfl)) _) rfl (lockS_yes HR.out)
      have := HB.out.put (p.n.toNat * 5 + 1) (.int .i64 1)
      rw [cRow_putN HCe.out] at this
      exact this
    · have hd : ((clOf s p).v.n != 0) = true := by simpa using hn
      have HR := Lib.hid (lockR_held hn)
      rw [h0]
      clear h0 hC hn
      go_wp2
      go_ret2
      rw [HR.out, H0.out]
      exact MPost.keep HO.out H1.out hbelow.out rfl (lockS_no HR.out)
  · have hd : (lockW s p != 0) = true := by simpa using h0
    have HR := Lib.hid (lockR_no rfl h0)
    have HS := Lib.hid (lockS_no HR.out)
    have H0 := Lib.hid h0
    clear h0
    generalize lockW s p = c at *
    go_wp2
    go_ret2
    rw [HS.out, HR.out]
    exact MPost.keep HO.out H1.out hbelow.out rfl rfl

theorem unlockS_no {s : MS} {p : MV} (h : lockW s p ≠ 0) : unlockS s p = s := by unfold unlockS; rw [if_neg h]
theorem unlockS_yes {s : MS} {p : MV} (h : lockW s p = 0) : unlockS s p = upd s p (putN (clOf s p) 0) := by unfold unlockS; rw [if_pos h]

set_option maxRecDepth 100000 in
set_option maxHeartbeats 4000000 in
theorem unlock_any {w : World} {b : Nat} {s : MS} {O : Nat → Prop} (h0 : MemAt w b s O) (p : MV) :
    Calls Try.prog 17 #[.pointer (some ⟨b, 0, none⟩), .agg #[.int .i64 p.kind, .int .i64 p.n, .int .i64 p.block]] w (MPost b (unlockS s p) (.int .i64 (lockW s p)) O w) := by
  obtain ⟨v, gs, h, hO⟩ := h0.open
  clear h0
  have H := Lib.hid (h.below ((Below.refl w.heap.size w).alloc (Nat.le_refl _) (.cells #[.int .i64 p.kind, .int .i64 p.n, .int .i64 p.block] 34)))
  clear h
  have HO := Lib.hid hO
  clear hO
  go_enter Try.func17, Try.ntmps17
  go_wp2_with fail
  ((with_reducible refine (lockOf_any H.out p).mono ?_); rintro e w1 ⟨A, rfl, hA, hb1⟩)
  have HA := Lib.hid hA
  have hbelow := Lib.hid (((Below.refl w.heap.size w).alloc (Nat.le_refl _) (.cells #[.int .i64 p.kind, .int .i64 p.n, .int .i64 p.block] 34)).trans (hb1.mono (by simp)))
  have H1 := Lib.hid (H.out.below hb1)
  clear hA hb1
  by_cases h0 : lockW s p = 0
  · obtain ⟨g, hg, rfl⟩ := HA.out h0
    have hC := lockW_ok h0
    obtain ⟨hB, hc⟩ := H1.out.cellRow hC hg
    obtain ⟨_, f1, _⟩ := cell_facts hB hc
    have z1 := hB.frozen (p.n.toNat * 5 + 1)
    have hlt := hB.lt
    have HB := Lib.hid hB
    have HCe := Lib.hid hc
    have HG := Lib.hid hg
    have H0 := Lib.hid h0
    have HC := Lib.hid hC
    clear hB hc hg
    rw [h0]
    clear h0 hC
    go_wp2
    go_ret
    rw [H0.out]
    refine MPost.upd HO.out H1.out hbelow.out HC.out HG.out (c := putN (clOf s p) 0) ?_ ((Ch.refl _ _).set _ (.inl (show g = g from rfl)) _) rfl (unlockS_yes H0.out)
    have := HB.out.put (p.n.toNat * 5 + 1) (.int .i64 0)
    rw [cRow_putN HCe.out] at this
    exact this
  · have hd : (lockW s p == 0) = false := by simpa using h0
    have HS := Lib.hid (unlockS_no h0)
    clear h0
    generalize lockW s p = c at *
    go_wp2
    go_ret
    rw [HS.out]
    exact MPost.keep HO.out H1.out hbelow.out rfl rfl

theorem run_enter {P : Program} {f : FuncId} {fn : Func} (hf : P.funcs[f]? = some fn) (hname : (fn.name == "runtime.NumGoroutine") = false) (hb : fn.body.isNone = false) (args : Array Value) (w : World) :
    (callFunc f args).run P w = .ok (.enter f args) w := by
  unfold callFunc
  simp only [Sem.run_bind, run_program, Result.andThen_ok, hf, hname, hb, Bool.false_eq_true, if_false, Sem.run_pure]

theorem index_yes {cs : List MC} {k : Nat} {c : MC} (hf : cs[k]? = some c) (ho : busyC c = true) : decide (0 ≤ (k : Int)) = cs.any busyC := by
  have h : cs.any busyC = true := List.any_eq_true.2 ⟨c, List.mem_of_getElem? hf, ho⟩
  rw [h]
  simp
theorem index_no {cs : List MC} {k : Nat} (hk : cs.length ≤ k) (ho : (cs.take k).any busyC = false) : decide (0 ≤ (-1 : Int)) = cs.any busyC := by
  rw [List.take_of_length_le hk] at ho
  rw [ho]
  rfl
def IdxPost (cs : List MC) (w : World) (e : Ending) (w' : World) : Prop := ∃ i : Int, e = .returned (.int .i64 i) ∧ (decide (0 ≤ i) = cs.any busyC) ∧ Below w.heap.size w w'

set_option maxHeartbeats 1000000 in
theorem index_any {w : World} {g : Nat} {cs : List MC} (hB : Blk w g (cRow cs) 82) (hl : cs.length ≤ 4096) :
    Calls Try.prog 40 #[.slice (some ⟨g, 0, none⟩) cs.length cs.length, .func (.func 32) #[] #[]] w (IdxPost cs w) := by
  have hlt := hB.lt
  have HB := Lib.hid hB
  clear hB
  go_enter Try.func40, Try.ntmps40
  go_wp2
  go_loopw [8] (fun i wr => ∃ k : Nat, k ≤ cs.length ∧ i = .int .i64 k ∧ Below w.heap.size w wr ∧ (cs.take k).any busyC = false) (fun i _ => cs.length - (intOf i).toNat)
  case atStart => exact ⟨0, by omega, rfl, Below.refl _ _, by simp⟩
  case round =>
    obtain ⟨k, hk, rfl, hb, hno⟩ := hrel
    have HBl := Lib.hid hb
    have HN := Lib.hid hno
    clear hb hno
    by_cases hlt2 : k < cs.length
    · obtain ⟨c, hf⟩ : ∃ c, cs[k]? = some c := ⟨_, List.getElem?_eq_getElem hlt2⟩
      obtain ⟨d0, d1, d2, d3, d4⟩ := cell_facts (HB.out.below HBl.out hlt) hf
      have HFF := Lib.hid hf
      clear hf
      go_wp2_with fail
      ((with_reducible refine (busy_any c _).mono ?_); rintro e w1 ⟨rfl, hb1⟩)
      have HB1 := Lib.hid (HBl.out.trans (hb1.mono HBl.out.size))
      clear hb1
      cases ho : busyC c
      · go_wp2
        go_roundw
        case rel => exact ⟨k + 1, by omega, by go_num, HB1.out, by rw [List.take_add_one, List.any_append, HN.out, HFF.out]; simp [ho]⟩
        case measure => simp [intOf]; omega
      · go_wp2
        go_ret
        exact ⟨k, rfl, index_yes HFF.out ho, HB1.out⟩
    · go_wp2
      go_ret
      exact ⟨-1, rfl, index_no (by omega) HN.out, HBl.out⟩

set_option maxHeartbeats 1000000 in
theorem contains_any {w : World} {g : Nat} {cs : List MC} (hB : Blk w g (cRow cs) 82) (hl : cs.length ≤ 4096) :
    Calls Try.prog 31 #[.slice (some ⟨g, 0, none⟩) cs.length cs.length, .func (.func 32) #[] #[]] w fun e w' => e = .returned (.bool (cs.any busyC)) ∧ Below w.heap.size w w' := by
  have hcall := index_any hB hl
  clear hB
  go_enter Try.func31, Try.ntmps31
  go_wp2_with fail
  refine hcall.mono ?_
  rintro e w1 ⟨i, rfl, hi, hb⟩
  have HI := Lib.hid hi
  have HB := Lib.hid hb
  clear hi hb hcall
  go_wp2
  go_ret
  exact ⟨ret_bool HI.out, HB.out⟩

end Go.Proofs.Ytnjndggdnmboeaa
