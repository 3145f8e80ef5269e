/- Plain accounts of layer 6, without the program: blocks of cells, and what each call answers and leaves. No conditions. -/
namespace Go.Proofs.Ytnjndggdnmboeaa

structure MV where
  kind : Int
  n : Int
  block : Int
deriving DecidableEq

structure MC where
  v : MV
  r : Int
  w : Bool

structure MB where
  live : Bool
  cells : List MC

abbrev MS := List MB

def v0 : MV := ⟨0, 0, 0⟩
def c0 : MC := ⟨v0, 0, false⟩
def b0 : MB := ⟨false, []⟩

def usedS : MS → Nat
  | [] => 0
  | b :: s => b.cells.length + 1 + usedS s

def at1 (p : MV) : Nat := (p.block - 1).toNat
def bkOf (s : MS) (p : MV) : MB := s.getD (at1 p) b0
def whyB (s : MS) (p : MV) : Int := if p.kind ≠ 2 then 1 else if p.block < 1 ∨ (s.length : Int) < p.block ∨ (bkOf s p).live = false then 2 else 0
def whyC (s : MS) (p : MV) : Int := if whyB s p ≠ 0 then whyB s p else if p.n < 0 ∨ ((bkOf s p).cells.length : Int) ≤ p.n then 3 else 0
def clOf (s : MS) (p : MV) : MC := (bkOf s p).cells.getD p.n.toNat c0
def upd (s : MS) (p : MV) (c : MC) : MS := s.set (at1 p) ⟨(bkOf s p).live, (bkOf s p).cells.set p.n.toNat c⟩
def busyC (c : MC) : Bool := decide (0 < c.r) || c.w
def needV (v : MV) : MV := if v.kind = 1 then ⟨1, v.n, 0⟩ else if v.kind = 2 then v else v0

def allocOK (s : MS) (n : Int) : Bool := decide (0 ≤ n) && decide (n ≤ 256) && decide ((usedS s : Int) + n + 1 ≤ 4096)
def allocS (s : MS) (n : Int) : MS := if allocOK s n = true then s ++ [⟨true, List.replicate n.toNat c0⟩] else s
def allocV (s : MS) (n : Int) : MV := if allocOK s n = true then ⟨2, 0, (s.length : Int) + 1⟩ else v0

def freeW (s : MS) (p : MV) : Int := if whyB s p ≠ 0 then whyB s p else if p.n ≠ 0 then 5 else if (bkOf s p).cells.any busyC = true then 6 else 0
def freeS (s : MS) (p : MV) : MS := if freeW s p = 0 then s.set (at1 p) ⟨false, (bkOf s p).cells⟩ else s

def beginW (s : MS) (p : MV) (wr : Bool) : Int := if whyC s p ≠ 0 then whyC s p else if ((clOf s p).w || (wr && decide (0 < (clOf s p).r))) = true then 6 else 0
def beginC (c : MC) (wr : Bool) : MC := if wr = true then ⟨c.v, c.r, true⟩ else ⟨c.v, c.r + 1, c.w⟩
def beginS (s : MS) (p : MV) (wr : Bool) : MS := if beginW s p wr = 0 then upd s p (beginC (clOf s p) wr) else s

def endW (s : MS) (p : MV) (wr : Bool) : Int :=
  if whyC s p ≠ 0 then whyC s p else if wr = true then (if (clOf s p).w = true then 0 else 6) else if (clOf s p).r = 0 then 6 else if (clOf s p).v.kind = 0 then 4 else 0
def endC (c : MC) (wr : Bool) (v : MV) : MC := if wr = true then ⟨needV v, c.r, false⟩ else ⟨c.v, c.r - 1, c.w⟩
def endS (s : MS) (p : MV) (wr : Bool) (v : MV) : MS := if endW s p wr = 0 ∨ endW s p wr = 4 ∧ whyC s p = 0 then upd s p (endC (clOf s p) wr v) else s
def endV (s : MS) (p : MV) (wr : Bool) : MV := if endW s p wr = 0 ∧ wr = false then (clOf s p).v else v0

def lockW (s : MS) (p : MV) : Int :=
  if whyC s p ≠ 0 then whyC s p else if busyC (clOf s p) = true then 6 else if (clOf s p).v.kind = 0 then 4 else if (clOf s p).v.kind ≠ 1 then 1 else 0
def lockR (s : MS) (p : MV) : Bool := decide (lockW s p = 0) && decide ((clOf s p).v.n = 0)
def putN (c : MC) (n : Int) : MC := ⟨⟨c.v.kind, n, c.v.block⟩, c.r, c.w⟩
def lockS (s : MS) (p : MV) : MS := if lockR s p = true then upd s p (putN (clOf s p) 1) else s
def unlockS (s : MS) (p : MV) : MS := if lockW s p = 0 then upd s p (putN (clOf s p) 0) else s

/- How many readers a cell has at most. -/
def Rd (s : MS) (N : Int) : Prop := ∀ b ∈ s, ∀ c ∈ b.cells, 0 ≤ c.r ∧ c.r ≤ N

theorem usedS_append (s : MS) (b : MB) : usedS (s ++ [b]) = usedS s + b.cells.length + 1 := by
  induction s with
  | nil => simp [usedS]
  | cons a s ih => simp only [List.cons_append, usedS, ih]; omega
theorem usedS_set (s : MS) (k : Nat) (b : MB) (h : ∀ a, s[k]? = some a → a.cells.length = b.cells.length) : usedS (s.set k b) = usedS s := by
  induction s generalizing k with
  | nil => simp
  | cons a s ih =>
    cases k with
    | zero => simp [usedS, h a (by simp)]
    | succ k => simp only [List.set_cons_succ, usedS, ih k (fun a ha => h a (by simpa using ha))]
theorem usedS_len (s : MS) : s.length ≤ usedS s := by
  induction s with
  | nil => simp
  | cons a s ih => simp only [usedS, List.length_cons]; omega
theorem usedS_block (s : MS) (b : MB) (h : b ∈ s) : b.cells.length + 1 ≤ usedS s := by
  induction s with
  | nil => cases h
  | cons a s ih =>
    simp only [usedS]
    rcases List.mem_cons.1 h with rfl | h
    · omega
    · have := ih h; omega

/- A pointer whose block may be used. -/
theorem whyB_ok {s : MS} {p : MV} (h : whyB s p = 0) : p.kind = 2 ∧ ∃ k : Nat, p.block = (k : Int) + 1 ∧ at1 p = k ∧ k < s.length ∧ s[k]? = some (bkOf s p) ∧ (bkOf s p).live = true := by
  unfold whyB at h
  split at h
  · cases h
  · split at h
    · cases h
    · rename_i h1 h2
      simp only [not_or] at h2
      obtain ⟨h2, h3, h4⟩ := h2
      have e : at1 p = (p.block - 1).toNat := rfl
      refine ⟨by omega, (p.block - 1).toNat, by omega, rfl, by omega, ?_, by simpa using h4⟩
      unfold bkOf
      rw [e, List.getD_eq_getElem?_getD, List.getElem?_eq_getElem (by omega)]
      rfl
theorem whyB_le (s : MS) (p : MV) : whyB s p = 0 ∨ whyB s p = 1 ∨ whyB s p = 2 := by
  unfold whyB
  split
  · exact .inr (.inl rfl)
  · split
    · exact .inr (.inr rfl)
    · exact .inl rfl
theorem whyC_ok {s : MS} {p : MV} (h : whyC s p = 0) : whyB s p = 0 ∧ ∃ j : Nat, p.n = (j : Int) ∧ j < (bkOf s p).cells.length ∧ (bkOf s p).cells[j]? = some (clOf s p) := by
  unfold whyC at h
  split at h
  · rename_i hb; exact absurd h hb
  · split at h
    · cases h
    · rename_i h1 h2
      simp only [not_or] at h2
      refine ⟨by omega, p.n.toNat, by omega, by omega, ?_⟩
      unfold clOf
      rw [List.getD_eq_getElem?_getD, List.getElem?_eq_getElem (by omega)]
      rfl
theorem whyC_le (s : MS) (p : MV) : 0 ≤ whyC s p ∧ whyC s p ≤ 3 := by
  have := whyB_le s p
  unfold whyC
  split <;> (try split) <;> omega
theorem upd_len (s : MS) (p : MV) (c : MC) : (upd s p c).length = s.length := by simp [upd]
theorem bkOf_get {s : MS} {p : MV} {a : MB} (h : s[at1 p]? = some a) : bkOf s p = a := by
  unfold bkOf
  rw [List.getD_eq_getElem?_getD, h]
  rfl
theorem usedS_upd (s : MS) (p : MV) (c : MC) : usedS (upd s p c) = usedS s := by
  unfold upd
  refine usedS_set _ _ _ fun a ha => ?_
  rw [bkOf_get ha]
  simp
theorem usedS_free (s : MS) (p : MV) : usedS (freeS s p) = usedS s := by
  unfold freeS
  split
  · refine usedS_set _ _ _ fun a ha => ?_
    rw [bkOf_get ha]
  · rfl
theorem usedS_begin (s : MS) (p : MV) (wr : Bool) : usedS (beginS s p wr) = usedS s := by
  unfold beginS
  split
  · exact usedS_upd _ _ _
  · rfl
theorem usedS_end (s : MS) (p : MV) (wr : Bool) (v : MV) : usedS (endS s p wr v) = usedS s := by
  unfold endS
  split
  · exact usedS_upd _ _ _
  · rfl
theorem usedS_lock (s : MS) (p : MV) : usedS (lockS s p) = usedS s := by
  unfold lockS
  split
  · exact usedS_upd _ _ _
  · rfl
theorem usedS_unlock (s : MS) (p : MV) : usedS (unlockS s p) = usedS s := by
  unfold unlockS
  split
  · exact usedS_upd _ _ _
  · rfl
theorem usedS_alloc (s : MS) (n : Int) : (usedS (allocS s n) : Int) = if allocOK s n = true then (usedS s : Int) + n + 1 else usedS s := by
  unfold allocS
  split
  · rename_i h
    unfold allocOK at h
    simp only [Bool.and_eq_true, decide_eq_true_eq] at h
    rw [usedS_append]
    simp only [List.length_replicate]
    omega
  · rfl

theorem mem_set {α : Type} {l : List α} {k : Nat} {a x : α} (h : x ∈ l.set k a) : x = a ∨ x ∈ l := by
  rcases List.mem_or_eq_of_mem_set h with h | h
  · exact .inr h
  · exact .inl h
theorem Rd.mono {s : MS} {N M : Int} (h : Rd s N) (hM : N ≤ M) : Rd s M := fun b hb c hc => by
  have := h b hb c hc
  omega
theorem Rd.upd {s : MS} {N : Int} (h : Rd s N) (p : MV) (c : MC) (h0 : 0 ≤ c.r) (h1 : c.r ≤ N) : Rd (upd s p c) N := by
  intro b hb x hx
  unfold Go.Proofs.Ytnjndggdnmboeaa.upd at hb
  rcases mem_set hb with rfl | hb
  · rcases mem_set hx with rfl | hx
    · exact ⟨h0, h1⟩
    · unfold bkOf at hx
      rw [List.getD_eq_getElem?_getD] at hx
      cases hs : s[at1 p]? with
      | none => rw [hs] at hx; simp [b0] at hx
      | some a => rw [hs] at hx; exact h a (List.mem_of_getElem? hs) x hx
  · exact h b hb x hx
theorem Rd.cl {s : MS} {N : Int} (h : Rd s N) {p : MV} (hp : whyC s p = 0) : 0 ≤ (clOf s p).r ∧ (clOf s p).r ≤ N := by
  obtain ⟨hb, j, _, _, hj⟩ := whyC_ok hp
  obtain ⟨_, k, _, _, _, hk, _⟩ := whyB_ok hb
  exact h _ (List.mem_of_getElem? hk) _ (List.mem_of_getElem? hj)
theorem Rd.alloc {s : MS} {N : Int} (h : Rd s N) (n : Int) (hN : 0 ≤ N) : Rd (allocS s n) N := by
  unfold allocS
  split
  · intro b hb x hx
    rcases List.mem_append.1 hb with hb | hb
    · exact h b hb x hx
    · rw [List.mem_singleton] at hb
      subst hb
      simp only [List.mem_replicate] at hx
      rw [hx.2]
      exact ⟨by simp [c0], by simpa [c0] using hN⟩
  · exact h
theorem Rd.free {s : MS} {N : Int} (h : Rd s N) (p : MV) : Rd (freeS s p) N := by
  unfold freeS
  split
  · intro b hb x hx
    rcases mem_set hb with rfl | hb
    · unfold bkOf at hx
      rw [List.getD_eq_getElem?_getD] at hx
      cases hs : s[at1 p]? with
      | none => rw [hs] at hx; simp [b0] at hx
      | some a => rw [hs] at hx; exact h a (List.mem_of_getElem? hs) x hx
    · exact h b hb x hx
  · exact h
theorem beginW_ok {s : MS} {p : MV} {wr : Bool} (h : beginW s p wr = 0) : whyC s p = 0 := by
  unfold beginW at h
  split at h
  · rename_i hc; exact absurd h hc
  · rename_i hc; omega
theorem lockW_ok {s : MS} {p : MV} (h : lockW s p = 0) : whyC s p = 0 := by
  unfold lockW at h
  split at h
  · rename_i hc; exact absurd h hc
  · rename_i hc; omega
theorem freeW_ok {s : MS} {p : MV} (h : freeW s p = 0) : whyB s p = 0 := by
  unfold freeW at h
  split at h
  · rename_i hc; exact absurd h hc
  · rename_i hc; omega
theorem Rd.begin {s : MS} {N : Int} (h : Rd s N) (p : MV) (wr : Bool) : Rd (beginS s p wr) (N + 1) := by
  unfold beginS
  split
  · rename_i hb
    have hc := h.cl (beginW_ok hb)
    refine (h.mono (by omega)).upd _ _ ?_ ?_ <;> (unfold beginC; split <;> simp only <;> omega)
  · exact h.mono (by omega)
theorem Rd.end {s : MS} {N : Int} (h : Rd s N) (p : MV) (wr : Bool) (v : MV) : Rd (endS s p wr v) N := by
  unfold endS
  split
  · rename_i hb
    have hC : whyC s p = 0 := by
      rcases hb with hb | hb
      · unfold endW at hb
        split at hb
        · rename_i hc; exact absurd hb hc
        · rename_i hc; omega
      · exact hb.2
    have hc := h.cl hC
    cases wr
    · have h0 : (clOf s p).r ≠ 0 := by
        intro h0
        unfold endW at hb
        rw [if_neg (by omega), if_neg (by simp), if_pos h0] at hb
        omega
      refine h.upd _ _ ?_ ?_ <;> (unfold endC; simp; omega)
    · refine h.upd _ _ ?_ ?_ <;> (unfold endC; simp; omega)
  · exact h
theorem Rd.lock {s : MS} {N : Int} (h : Rd s N) (p : MV) : Rd (lockS s p) N := by
  unfold lockS
  split
  · rename_i hb
    unfold lockR at hb
    simp only [Bool.and_eq_true, decide_eq_true_eq] at hb
    have hc := h.cl (lockW_ok hb.1)
    exact h.upd _ _ hc.1 hc.2
  · exact h
theorem Rd.unlock {s : MS} {N : Int} (h : Rd s N) (p : MV) : Rd (unlockS s p) N := by
  unfold unlockS
  split
  · rename_i hb
    have hc := h.cl (lockW_ok hb)
    exact h.upd _ _ hc.1 hc.2
  · exact h

/- The document's own account: one list of cells, each with its block and its number. -/
structure RC where
  block : Nat
  number : Nat
  c : MC

def rowR (b : Nat) : Nat → List MC → List RC
  | _, [] => []
  | j, c :: l => ⟨b, j, c⟩ :: rowR b (j + 1) l
def rcs : Nat → MS → List RC
  | _, [] => []
  | i, b :: s => rowR (i + 1) 0 b.cells ++ rcs (i + 1) s
def offS : MS → Nat → Nat
  | _, 0 => 0
  | [], _ => 0
  | b :: s, k + 1 => b.cells.length + offS s k

theorem rowR_length (b j : Nat) (l : List MC) : (rowR b j l).length = l.length := by
  induction l generalizing j with
  | nil => rfl
  | cons c l ih => simp [rowR, ih]
theorem rowR_get (b : Nat) (l : List MC) (j x : Nat) : (rowR b j l)[x]? = (l[x]?).map fun c => ⟨b, j + x, c⟩ := by
  induction l generalizing j x with
  | nil => simp [rowR]
  | cons c l ih =>
    cases x with
    | zero => simp [rowR]
    | succ x => simp only [rowR, List.getElem?_cons_succ, ih]; congr 1; funext c; congr 1; omega
theorem rowR_set (b : Nat) (l : List MC) (j x : Nat) (c : MC) : (rowR b j l).set x ⟨b, j + x, c⟩ = rowR b j (l.set x c) := by
  induction l generalizing j x with
  | nil => simp [rowR]
  | cons d l ih =>
    cases x with
    | zero => simp [rowR]
    | succ x =>
      simp only [rowR, List.set_cons_succ]
      rw [← ih (j + 1) x, show j + 1 + x = j + (x + 1) by omega]
theorem rcs_append (i : Nat) (s : MS) (b : MB) : rcs i (s ++ [b]) = rcs i s ++ rowR (i + s.length + 1) 0 b.cells := by
  induction s generalizing i with
  | nil => simp [rcs]
  | cons a s ih =>
    simp only [List.cons_append, rcs, ih, List.append_assoc, List.length_cons]
    rw [show i + 1 + s.length + 1 = i + (s.length + 1) + 1 by omega]
theorem rcs_set_live (i : Nat) (s : MS) (k : Nat) (a : MB) (x : Bool) (h : s[k]? = some a) : rcs i (s.set k ⟨x, a.cells⟩) = rcs i s := by
  induction s generalizing i k with
  | nil => simp
  | cons b s ih =>
    cases k with
    | zero => simp only [List.getElem?_cons_zero, Option.some.injEq] at h; subst h; rfl
    | succ k => simp only [List.set_cons_succ, rcs]; rw [ih (i + 1) k (by simpa using h)]
theorem rcs_set (i : Nat) (s : MS) (k : Nat) (a : MB) (j : Nat) (c : MC) (h : s[k]? = some a) (hj : j < a.cells.length) :
    (rcs i s).set (offS s k + j) ⟨i + k + 1, j, c⟩ = rcs i (s.set k ⟨a.live, a.cells.set j c⟩) := by
  induction s generalizing i k with
  | nil => simp at h
  | cons b s ih =>
    cases k with
    | zero =>
      simp only [List.getElem?_cons_zero, Option.some.injEq] at h
      subst h
      simp only [rcs, offS, List.set_cons_zero, Nat.zero_add, Nat.add_zero]
      rw [List.set_append_left _ _ (by rw [rowR_length]; exact hj)]
      have := rowR_set (i + 1) b.cells 0 j c
      rw [Nat.zero_add] at this
      rw [this]
    | succ k =>
      simp only [rcs, offS, List.set_cons_succ]
      rw [List.set_append_right _ _ (by rw [rowR_length]; omega), rowR_length, ← ih (i + 1) k (by simpa using h)]
      rw [show b.cells.length + offS s k + j - b.cells.length = offS s k + j by omega, show i + 1 + k + 1 = i + (k + 1) + 1 by omega]
theorem rcs_get (i : Nat) (s : MS) (k : Nat) (a : MB) (j : Nat) (c : MC) (h : s[k]? = some a) (hj : a.cells[j]? = some c) : (rcs i s)[offS s k + j]? = some ⟨i + k + 1, j, c⟩ := by
  induction s generalizing i k with
  | nil => simp at h
  | cons b s ih =>
    have hlt := (List.getElem?_eq_some_iff.1 hj).1
    cases k with
    | zero =>
      simp only [List.getElem?_cons_zero, Option.some.injEq] at h
      subst h
      simp only [rcs, offS, Nat.zero_add, Nat.add_zero]
      rw [List.getElem?_append_left (by rw [rowR_length]; exact hlt), rowR_get, hj]
      simp
    | succ k =>
      simp only [rcs, offS]
      rw [List.getElem?_append_right (by rw [rowR_length]; omega), rowR_length, show b.cells.length + offS s k + j - b.cells.length = offS s k + j by omega, ih (i + 1) k (by simpa using h)]
      rw [show i + 1 + k + 1 = i + (k + 1) + 1 by omega]
/- Each cell of that list is one of a block, and stands where it should. -/
theorem rcs_is (i : Nat) (s : MS) (x : Nat) (e : RC) (h : (rcs i s)[x]? = some e) : ∃ k a, e.block = i + k + 1 ∧ s[k]? = some a ∧ a.cells[e.number]? = some e.c ∧ x = offS s k + e.number := by
  induction s generalizing i x with
  | nil => simp [rcs] at h
  | cons b s ih =>
    simp only [rcs] at h
    by_cases hx : x < b.cells.length
    · rw [List.getElem?_append_left (by rw [rowR_length]; exact hx), rowR_get, List.getElem?_eq_getElem hx] at h
      simp only [Option.map_some, Option.some.injEq] at h
      subst h
      exact ⟨0, b, by simp, by simp, by simp [List.getElem?_eq_getElem hx], by simp [offS]⟩
    · rw [List.getElem?_append_right (by rw [rowR_length]; omega), rowR_length] at h
      obtain ⟨k, a, h1, h2, h3, h4⟩ := ih (i + 1) _ h
      exact ⟨k + 1, a, by omega, by simpa using h2, h3, by simp only [offS]; omega⟩
theorem rcs_length (i : Nat) (s : MS) : (rcs i s).length + s.length = usedS s := by
  induction s generalizing i with
  | nil => rfl
  | cons b s ih =>
    have := ih (i + 1)
    simp only [rcs, List.length_append, rowR_length, usedS, List.length_cons]
    omega
/- The cell that a pointer names, and no other. -/
def hitR (p : MV) (e : RC) : Bool := decide ((e.block : Int) = p.block) && decide ((e.number : Int) = p.n)
def placeR (s : MS) (p : MV) : Nat := offS s (at1 p) + p.n.toNat
theorem rcs_hit {s : MS} {p : MV} (h : whyC s p = 0) : (rcs 0 s)[placeR s p]? = some ⟨at1 p + 1, p.n.toNat, clOf s p⟩ ∧ hitR p ⟨at1 p + 1, p.n.toNat, clOf s p⟩ = true ∧ ∀ x e, (rcs 0 s)[x]? = some e → hitR p e = true → x = placeR s p := by
  obtain ⟨hb, j, hj, hlt, hc⟩ := whyC_ok h
  obtain ⟨_, k, hk, hk1, hks, hbk, _⟩ := whyB_ok hb
  have ej : p.n.toNat = j := by omega
  refine ⟨?_, ?_, fun x e hx hh => ?_⟩
  · unfold placeR
    rw [hk1, ej]
    have := rcs_get 0 s k _ j _ hbk hc
    rw [Nat.zero_add] at this
    exact this
  · unfold hitR
    simp only [Bool.and_eq_true, decide_eq_true_eq]
    omega
  · obtain ⟨k', a, h1, h2, h3, h4⟩ := rcs_is 0 s x e hx
    unfold hitR at hh
    simp only [Bool.and_eq_true, decide_eq_true_eq] at hh
    unfold placeR
    have e1 : k' = at1 p := by omega
    have e2 : p.n.toNat = e.number := by omega
    rw [← e1, e2]
    exact h4
theorem rcs_miss {s : MS} {p : MV} (hb : whyB s p = 0) (h : whyC s p ≠ 0) (x : Nat) (e : RC) (hx : (rcs 0 s)[x]? = some e) : hitR p e = false := by
  rw [Bool.eq_false_iff]
  intro hh
  apply h
  obtain ⟨k', a, h1, h2, h3, h4⟩ := rcs_is 0 s x e hx
  unfold hitR at hh
  simp only [Bool.and_eq_true, decide_eq_true_eq] at hh
  obtain ⟨_, k, hk, hk1, hks, hbk, _⟩ := whyB_ok hb
  have e1 : k' = k := by omega
  subst e1
  rw [hbk] at h2
  cases h2
  have := (List.getElem?_eq_some_iff.1 h3).1
  unfold whyC
  rw [if_neg (by omega), if_neg (by omega)]
theorem rcs_upd {s : MS} {p : MV} (h : whyC s p = 0) (c : MC) : (rcs 0 s).set (placeR s p) ⟨at1 p + 1, p.n.toNat, c⟩ = rcs 0 (upd s p c) := by
  obtain ⟨hb, j, hj, hlt, hc⟩ := whyC_ok h
  obtain ⟨_, k, hk, hk1, hks, hbk, _⟩ := whyB_ok hb
  have ej : p.n.toNat = j := by omega
  unfold placeR upd
  rw [hk1, ej]
  have := rcs_set 0 s k _ j c hbk hlt
  rw [Nat.zero_add] at this
  exact this
theorem rcs_busy {s : MS} {p : MV} (hb : whyB s p = 0) : ((rcs 0 s).any fun e => decide ((e.block : Int) = p.block) && busyC e.c) = (bkOf s p).cells.any busyC := by
  obtain ⟨_, k, hk, hk1, hks, hbk, _⟩ := whyB_ok hb
  rw [Bool.eq_iff_iff]
  simp only [List.any_eq_true, Bool.and_eq_true, decide_eq_true_eq]
  constructor
  · rintro ⟨e, he, h1, h2⟩
    obtain ⟨x, hx, he⟩ := List.getElem_of_mem he
    have hx2 : (rcs 0 s)[x]? = some e := by rw [List.getElem?_eq_getElem hx, he]
    obtain ⟨k', a, h3, h4, h5, _⟩ := rcs_is 0 s x e hx2
    have e1 : k' = k := by omega
    subst e1
    rw [hbk] at h4
    cases h4
    exact ⟨e.c, List.mem_of_getElem? h5, h2⟩
  · rintro ⟨c, hc, h2⟩
    obtain ⟨j, hj, hc⟩ := List.getElem_of_mem hc
    have hj2 : (bkOf s p).cells[j]? = some c := by rw [List.getElem?_eq_getElem hj, hc]
    have := rcs_get 0 s k _ j _ hbk hj2
    exact ⟨_, List.mem_of_getElem? this, by simp; omega, h2⟩

end Go.Proofs.Ytnjndggdnmboeaa
