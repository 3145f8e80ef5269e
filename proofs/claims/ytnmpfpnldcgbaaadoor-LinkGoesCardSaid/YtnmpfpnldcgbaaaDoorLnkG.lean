/- A map that counts names, and what LinkGoes keeps to in its loops. -/
import Derived.Test.YtnmpfpnldcgbaaaDoorLnkF
import Derived.Test.YtnmpfpnldcgbaaaDoorLnkP
namespace Go.Proofs.YtnmpfpnldcgbaaaDoor
open Go.RowKit Go.Maps

def cntN : List Cod → ByteArray → Nat
  | [], _ => 0
  | c :: cs, s => (bif c.name.toList == s.toList then 1 else 0) + cntN cs s
theorem cntN_snoc : ∀ (cs : List Cod) (c : Cod) (s : ByteArray), cntN (cs ++ [c]) s = cntN cs s + (bif c.name.toList == s.toList then 1 else 0)
  | [], c, s => by simp [cntN]
  | a :: cs, c, s => by rw [List.cons_append, cntN, cntN, cntN_snoc cs c s, Nat.add_assoc]
theorem cntN_le : ∀ (cs : List Cod) (s : ByteArray), cntN cs s ≤ cs.length
  | [], s => Nat.le_refl _
  | c :: cs, s => by
    rw [cntN, List.length_cons]
    have := cntN_le cs s
    cases (c.name.toList == s.toList) <;> simp <;> omega
theorem cntN_none : ∀ {cs : List Cod} {s : ByteArray}, (∀ c ∈ cs, c.name.toList ≠ s.toList) → cntN cs s = 0
  | [], _, _ => rfl
  | c :: cs, s, h => by
    rw [cntN, cntN_none fun d hd => h d (by simp [hd])]
    have : (c.name.toList == s.toList) = false := by simpa using h c (by simp)
    rw [this]; rfl
theorem findN_first {cs : List Cod} {s : ByteArray} {k : Nat} (h : findN cs s = some k) : ∃ c, cs[k]? = some c ∧ c.name = s := by
  induction cs generalizing k with
  | nil => simp [findN] at h
  | cons a cs ih =>
    rw [findN_cons] at h
    cases hq : (a.name.toList == s.toList) with
    | true =>
      rw [hq] at h
      obtain rfl : 0 = k := by simpa using h
      exact ⟨a, rfl, toList_eq_iff.1 (by simpa using hq)⟩
    | false =>
      rw [hq] at h
      simp only [cond_false, Option.map_eq_some_iff] at h
      obtain ⟨j, hj, rfl⟩ := h
      obtain ⟨c, hc, hn⟩ := ih hj
      exact ⟨c, by simpa using hc, hn⟩
theorem uniq_tail {a : Cod} {cs : List Cod} (h : Uniq (a :: cs)) : Uniq cs ∧ ∀ c ∈ cs, c.name.toList ≠ a.name.toList := by
  have hne : ∀ c ∈ cs, c.name.toList ≠ a.name.toList := fun c hc he => by
    obtain ⟨k, hk⟩ := List.mem_iff_getElem?.1 hc
    have h1 := h (k + 1) c (by simpa using hk)
    rw [findN_cons] at h1
    have hb : (a.name.toList == c.name.toList) = true := by simp [he]
    rw [hb] at h1
    simp at h1
  refine ⟨fun k c hk => ?_, hne⟩
  have h1 := h (k + 1) c (by simpa using hk)
  rw [findN_cons] at h1
  have hb : (a.name.toList == c.name.toList) = false := by
    have := hne c (List.mem_of_getElem? hk)
    simpa using fun e => this e.symm
  rw [hb] at h1
  simpa using h1
theorem uniq_cnt : ∀ {cs : List Cod}, Uniq cs → ∀ c ∈ cs, cntN cs c.name = 1
  | [], _, c, h => by simp at h
  | a :: cs, hu, c, h => by
    obtain ⟨ht, hne⟩ := uniq_tail hu
    rw [cntN]
    rcases List.mem_cons.1 h with rfl | h
    · rw [cntN_none hne]; simp
    · rw [uniq_cnt ht c h]
      have : (a.name.toList == c.name.toList) = false := by
        have := hne c h
        simpa using fun e => this e.symm
      rw [this]; rfl

/- The map of counts in memory. -/
def CntAt (w : World) (M : Nat) (cs : List Cod) : Prop :=
  ∃ (n : Nat) (D : DataW Unit), w.ownsMap Tryd.prog 9 (plainElem Tryd.prog 3) M n D ∧ n ≤ cs.length ∧ IsMap D ∧ ∀ s : ByteArray, D.atKey (keyL s) (.lit (.int .i64 0)) = .lit (.int .i64 (cntN cs s : Nat))
theorem CntAt.lt {w : World} {M : Nat} {cs : List Cod} (h : CntAt w M cs) : M < w.heap.size := by
  obtain ⟨n, D, h1, _⟩ := h
  exact h1.lt
theorem CntAt.same {w w' : World} {M : Nat} {cs : List Cod} (h : CntAt w M cs) (e : w'.heap[M]? = w.heap[M]?) : CntAt w' M cs := by
  obtain ⟨n, D, ⟨es, clock, hb, hr⟩, h2⟩ := h
  exact ⟨n, D, ⟨es, clock, e.trans hb, hr⟩, h2⟩
theorem CntAt.look {w : World} {M : Nat} {cs : List Cod} (h : CntAt w M cs) {s : ByteArray} (hs : s.size ≤ maxLen) :
    (Instr.lookup 66 (.map (some M)) (.string s) false).run Tryd.prog w = .ok (.int .i64 (cntN cs s : Nat)) w := by
  obtain ⟨n, D, ho, hn, hI, hD⟩ := h
  obtain ⟨c, hrun, hat, _⟩ := ho.lookup_int lawStr Tryd.underlying66 Tryd.underlying3 (zeroInt w) (WideMaps.keyOf_string_mk Tryd.underlying9 hs)
  rw [show (DataW.atKey D (.string s.data.toList) (.lit (.int .i64 0))) = _ from hD s] at hat
  have e : (cntN cs s : Int) = c := by simpa using hat
  rw [hrun, e]
theorem CntAt.put {w1 : World} {M n : Nat} {cs : List Cod} {c : Cod} {D : DataW Unit} (hn : n ≤ cs.length) (hI : IsMap D) (hD : ∀ s : ByteArray, D.atKey (keyL s) (.lit (.int .i64 0)) = .lit (.int .i64 (cntN cs s : Nat)))
    (ho : w1.ownsMap Tryd.prog 9 (plainElem Tryd.prog 3) M (n + 1) (D.put (keyL c.name) (.lit (.int .i64 ((cntN cs c.name : Nat) + 1 : Int))))) : CntAt w1 M (cs ++ [c]) := by
  refine ⟨n + 1, _, ho, by simp; omega, hI.put _ _, fun s => ?_⟩
  rw [cntN_snoc]
  by_cases he : c.name = s
  · subst he
    rw [atKey_put_same hI (by unfold keyL; trivial)]
    simp
  · have hk : keyL s ≠ keyL c.name := fun e => he (toList_eq_iff.1 ((keyL_eq s c.name).1 e).symm)
    have hb : (c.name.toList == s.toList) = false := by simpa using fun e => he (toList_eq_iff.1 e)
    rw [atKey_put_other hk, hD s, hb]
    rfl
theorem CntAt.made (w : World) : CntAt (w.alloc (.map #[] 0)) w.heap.size [] := ⟨0, _, World.ownsMap_made _ _ _ _, Nat.le_refl _, ⟨[], rfl⟩, fun _ => rfl⟩

/- What is kept in the loops: the image, the counts, all that was there. -/
structure GoSt (w : World) (ib M : Nat) (ic : List Value) (cs : List Cod) (wr : World) : Prop where
  i : Blk wr ib ic 60
  c : CntAt wr M cs
  ne : ib ≠ M
  lo : w.heap.size ≤ ib ∧ w.heap.size ≤ M
  b : Below w.heap.size w wr
section
variable {w wr wr' : World} {ib M : Nat} {ic : List Value} {cs cs' : List Cod}
theorem GoSt.below (h : GoSt w ib M ic cs wr) (hb : Below wr.heap.size wr wr') : GoSt w ib M ic cs wr' :=
  ⟨h.i.stays hb, h.c.same (hb.block _ h.c.lt), h.ne, h.lo, h.b.trans (hb.mono h.b.size)⟩
theorem GoSt.alloc (h : GoSt w ib M ic cs wr) (o : Obj) : GoSt w ib M ic cs (wr.alloc o) := h.below ((Below.refl _ _).alloc (Nat.le_refl _) _)
theorem GoSt.nq (h : GoSt w ib M ic cs wr) (n : Nat) : GoSt w ib M ic cs (wr.drewN n) := h.below (below_nqL (Below.refl _ _) n)
theorem GoSt.put (h : GoSt w ib M ic cs wr) (hg : wr.grownBy wr' (some M)) (hc : CntAt wr' M cs') : GoSt w ib M ic cs' wr' :=
  ⟨h.i.grown hg (fun e => h.ne (Option.some.inj e)), hc, h.ne, h.lo, ⟨hg.os.trans h.b.os, hg.tape.trans h.b.tape, hg.output.trans h.b.output, Nat.le_trans h.b.size hg.size, fun k hk => (hg.block k (Nat.lt_of_lt_of_le hk h.b.size) (fun e => by have := Option.some.inj e; have := h.lo; omega)).trans (h.b.block k hk)⟩⟩
end

end Go.Proofs.YtnmpfpnldcgbaaaDoor
