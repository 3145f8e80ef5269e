/- The document's table of layer 4, without the program: least ways over all pairs, row by row as the document's answer goes; that it is refused just where there is no solution, what it says where there is one, and that its numbers stay within bounds. -/
import Derived.Test.YtejnjaikalckiaaDPlain
namespace Go.Proofs.Ytejnjaikalckiaa

def FAR : Int := 4611686018427387904
abbrev Tab := Nat → Nat → Int
def setT (t : Tab) (x y : Nat) (c : Int) : Tab := fun x' y' => if x' = x ∧ y' = y then c else t x' y'

/- The table of the facts alone, behind the first k of them. -/
def initT (fs : List F) : Nat → Tab
  | 0 => fun x y => if x = y then 0 else FAR
  | k + 1 => let t := initT fs k; let f := fs.getD k zeroF; if f.c < t f.x.toNat f.y.toNat then setT t f.x.toNat f.y.toNat f.c else t

/- One cell, one row (its first k cells), one round (its first k rows), all rounds. -/
def cellS (t : Tab) (m x y : Nat) : Tab := if t m y = FAR then t else if t x m + t m y < t x y then setT t x y (t x m + t m y) else t
def rowS (t : Tab) (m x : Nat) : Nat → Tab
  | 0 => t
  | k + 1 => cellS (rowS t m x k) m x k
def rowAll (t : Tab) (m x n : Nat) : Tab := if t x m = FAR then t else rowS t m x n
def rndS (t : Tab) (m n : Nat) : Nat → Tab
  | 0 => t
  | k + 1 => rowAll (rndS t m n k) m k n
def fwT (fs : List F) (n : Nat) : Nat → Tab
  | 0 => initT fs fs.length
  | m + 1 => rndS (fwT fs n m) m n n
/- The row x of the round m ends it all. -/
def stops (fs : List F) (n m x : Nat) : Prop := rndS (fwT fs n m) m n x x m ≠ FAR ∧ rndS (fwT fs n m) m n (x + 1) x x < 0

theorem setT_same (t : Tab) (x y : Nat) (c : Int) : setT t x y c x y = c := by simp [setT]
theorem setT_other (t : Tab) {x y x' y' : Nat} (c : Int) (h : ¬ (x' = x ∧ y' = y)) : setT t x y c x' y' = t x' y' := by simp only [setT, if_neg h]

/- What the round m makes of a cell where nothing of its own row and column moves. -/
def upd (t : Tab) (m x y : Nat) : Int := if t x m = FAR then t x y else if t m y = FAR then t x y else if t x m + t m y < t x y then t x m + t m y else t x y

theorem upd_col {t : Tab} {m x : Nat} (h : t m m = 0) : upd t m x m = t x m := by
  unfold upd
  rw [h]
  split
  · rfl
  · split
    · rfl
    · split
      · omega
      · rfl

theorem cellS_other (t : Tab) {m x y x' y' : Nat} (h : ¬ (x' = x ∧ y' = y)) : cellS t m x y x' y' = t x' y' := by
  unfold cellS
  split
  · rfl
  · split
    · exact setT_other t _ h
    · rfl
theorem cellS_at (t : Tab) (m x y : Nat) : cellS t m x y x y = if t m y = FAR then t x y else if t x m + t m y < t x y then t x m + t m y else t x y := by
  unfold cellS
  split
  · rfl
  · split
    · exact setT_same t x y _
    · rfl

theorem rowS_other (t : Tab) (m x : Nat) : ∀ (k : Nat) {x' y' : Nat}, ¬ (x' = x ∧ y' < k) → rowS t m x k x' y' = t x' y'
  | 0, x', y', _ => rfl
  | k + 1, x', y', h => by
    show cellS (rowS t m x k) m x k x' y' = _
    rw [cellS_other _ (by omega)]
    exact rowS_other t m x k (by omega)

theorem rowS_good {t : Tab} {m x : Nat} (hm : t m m = 0) (hx : t x m ≠ FAR) : ∀ (k y : Nat), y < k → rowS t m x k x y = upd t m x y
  | 0, y, h => by omega
  | k + 1, y, h => by
    show cellS (rowS t m x k) m x k x y = _
    by_cases e : y = k
    · subst e
      rw [cellS_at]
      have h1 : rowS t m x y m y = t m y := rowS_other t m x y (by omega)
      have h2 : rowS t m x y x y = t x y := rowS_other t m x y (by omega)
      have h3 : rowS t m x y x m = t x m := by
        by_cases hmy : m < y
        · rw [rowS_good hm hx y m hmy, upd_col hm]
        · exact rowS_other t m x y (by omega)
      rw [h1, h2, h3]
      unfold upd
      rw [if_neg hx]
    · rw [cellS_other _ (by omega)]
      exact rowS_good hm hx k y (by omega)

theorem rowAll_good {t : Tab} {m x n : Nat} (hm : t m m = 0) (y : Nat) (hy : y < n) : rowAll t m x n x y = upd t m x y := by
  unfold rowAll
  split
  · rename_i h
    unfold upd
    rw [if_pos h]
  · rename_i h
    exact rowS_good hm h n y hy
theorem rowAll_other {t : Tab} {m x n x' y' : Nat} (h : x' ≠ x) : rowAll t m x n x' y' = t x' y' := by
  unfold rowAll
  split
  · rfl
  · exact rowS_other t m x n (by omega)

theorem rndS_ge {t : Tab} {m n : Nat} : ∀ (k : Nat) {x y : Nat}, k ≤ x → rndS t m n k x y = t x y
  | 0, _, _, _ => rfl
  | k + 1, x, y, h => by
    show rowAll (rndS t m n k) m k n x y = _
    rw [rowAll_other (by omega)]
    exact rndS_ge k (by omega)

theorem upd_row {t : Tab} {m y : Nat} (h : t m m = 0) : upd t m m y = t m y := by
  unfold upd
  rw [h]
  split
  · rfl
  · split
    · rfl
    · split
      · omega
      · rfl

/- Where the round's own number is 0: the round is what 'upd' says, cell by cell. -/
theorem rndS_good {t : Tab} {m n : Nat} (hm : t m m = 0) (hmn : m < n) : ∀ (k : Nat), k ≤ n → ∀ x y, x < n → y < n → rndS t m n k x y = if x < k then upd t m x y else t x y
  | 0, _, x, y, _, _ => by simp [rndS]
  | k + 1, hk, x, y, hx, hy => by
    have ih := rndS_good hm hmn k (by omega)
    have hrow : ∀ y, y < n → rndS t m n k m y = t m y := fun y hy => by
      rw [ih m y hmn hy]
      split
      · exact upd_row hm
      · rfl
    show rowAll (rndS t m n k) m k n x y = _
    by_cases e : x = k
    · subst e
      rw [rowAll_good (by rw [hrow m hmn]; exact hm) y hy, if_pos (by omega)]
      have h1 : rndS t m n x x m = t x m := rndS_ge x (by omega)
      have h2 : rndS t m n x x y = t x y := rndS_ge x (by omega)
      unfold upd
      rw [h1, h2, hrow y hy]
    · rw [rowAll_other e, ih x y hx hy]
      by_cases h : x < k
      · rw [if_pos h, if_pos (by omega)]
      · rw [if_neg h, if_neg (by omega)]

/- What facts a system keeps if only its first M variables are looked at. -/
def SolTo (fs : List F) (M : Nat) (p : Nat → Int) : Prop := ∀ f ∈ fs, f.x.toNat < M → f.y.toNat < M → Hold p f

structure Low (t : Tab) (n M : Nat) (p : Nat → Int) : Prop where
  e1 : ∀ x y, x < n → y < n → t x y ≠ FAR → -1152921504606846976 - 17592186044416 ≤ t x y
  e2 : ∀ k y, k < M → y < n → t k y ≠ FAR → p k - 8796093022208 ≤ t k y
  e3 : ∀ x k, x < n → k < M → t x k ≠ FAR → -1152921504606846976 - 8796093022208 - p k ≤ t x k
  e4 : ∀ k l, k < M → l < M → t k l ≠ FAR → p k - p l ≤ t k l

structure TInv (fs : List F) (n m : Nat) (t : Tab) : Prop where
  diag : ∀ x, x < n → t x x = initT fs fs.length x x
  zero : ∀ k, k < m → initT fs fs.length k k = 0
  fact : ∀ f ∈ fs, t f.x.toNat f.y.toNat ≤ f.c
  clos : ∀ k x y, k < m → x < n → y < n → t x k ≠ FAR → t k y ≠ FAR → t x y ≤ t x k + t k y
  up : ∀ x y, x < n → y < n → t x y ≠ FAR → ∃ L : List Nat, L.Nodup ∧ (∀ k ∈ L, k < m ∧ t x k ≠ FAR ∧ t k y ≠ FAR) ∧ t x y ≤ ((L.length : Int) + 1) * 8796093022208
  low : ∀ M p, m ≤ M → M ≤ n → (∀ i, -1152921504606846976 ≤ p i ∧ p i ≤ 0) → SolTo fs M p → Low t n M p
  snd : ∀ v, Sol fs v → ∀ x y, x < n → y < n → t x y ≠ FAR → v x - v y ≤ t x y

theorem nodup_len : ∀ {L : List Nat} {m : Nat}, L.Nodup → (∀ k ∈ L, k < m) → L.length ≤ m := by
  intro L m hn hl
  rcases Nat.lt_or_ge m L.length with h | h
  · exfalso
    obtain ⟨i, j, hij, hj, he⟩ := pigeon m (fun k => L.getD k 0) (fun k hk => by
      show L.getD k 0 < m
      rw [List.getD_eq_getElem?_getD, List.getElem?_eq_getElem (show k < L.length by omega)]
      exact hl _ (List.getElem_mem _))
    simp only [List.getD_eq_getElem?_getD, List.getElem?_eq_getElem (show i < L.length by omega), List.getElem?_eq_getElem (show j < L.length by omega), Option.getD_some] at he
    exact List.pairwise_iff_getElem.1 hn i j _ _ hij he
  · exact h

theorem TInv.upper {fs : List F} {n m : Nat} {t : Tab} (h : TInv fs n m t) (hm : m ≤ 96) {x y : Nat} (hx : x < n) (hy : y < n) (hf : t x y ≠ FAR) : t x y ≤ 853221023154176 := by
  obtain ⟨L, h1, h2, h3⟩ := h.up x y hx hy hf
  have := nodup_len h1 (fun k hk => (h2 k hk).1)
  omega

/- A system with a solution has one within bounds. -/
theorem bounded_sol {n : Nat} {fs : List F} (fit : FitS n fs) (h : ∃ v, Sol fs v) : ∃ p : Nat → Int, Sol fs p ∧ ∀ i, -1152921504606846976 ≤ p i ∧ p i ≤ 0 := by
  obtain ⟨v, hv⟩ := h
  by_cases hl : ∃ r, r < n ∧ (runs fs n (r + 1)).low = -1
  · obtain ⟨r, hr, hl⟩ := hl
    refine ⟨_, (rest_greatest fit.fit hl).sol, fun i => ?_⟩
    exact at_bounds fit.fit fit.len (by have := fit.n2; omega) (Nat.le_refl _) i
  · have hn := fit.n1
    have hlow : (runs fs n n).low ≠ -1 := fun h0 => hl ⟨n - 1, by omega, by rw [show n - 1 + 1 = n by omega]; exact h0⟩
    obtain ⟨u, hu, _, _, p, hp⟩ := last_loops fit.fit hn hlow
    exact absurd hv ((hp.circle fit.fit hp.p1 hp.back).none v)

/- The least of a row's numbers and 0. -/
def rowMin (t : Tab) (x : Nat) : Nat → Int
  | 0 => 0
  | k + 1 => if t x k < rowMin t x k then t x k else rowMin t x k
theorem rowMin_zero (t : Tab) (x : Nat) : ∀ k, rowMin t x k ≤ 0
  | 0 => Int.le_refl _
  | k + 1 => by
    have := rowMin_zero t x k
    show (if t x k < rowMin t x k then t x k else rowMin t x k) ≤ 0
    split <;> omega
theorem rowMin_le (t : Tab) (x : Nat) : ∀ k y, y < k → rowMin t x k ≤ t x y
  | 0, y, h => by omega
  | k + 1, y, h => by
    show (if t x k < rowMin t x k then t x k else rowMin t x k) ≤ t x y
    by_cases e : y = k
    · subst e; split <;> omega
    · have := rowMin_le t x k y (by omega)
      split <;> omega
theorem rowMin_is (t : Tab) (x : Nat) : ∀ k, rowMin t x k = 0 ∨ ∃ y, y < k ∧ rowMin t x k = t x y ∧ t x y < 0
  | 0 => .inl rfl
  | k + 1 => by
    have h0 := rowMin_zero t x k
    show (if t x k < rowMin t x k then t x k else rowMin t x k) = 0 ∨ ∃ y, y < k + 1 ∧ (if t x k < rowMin t x k then t x k else rowMin t x k) = t x y ∧ t x y < 0
    split
    · exact .inr ⟨k, by omega, rfl, by omega⟩
    · rcases rowMin_is t x k with h | ⟨y, hy, h1, h2⟩
      · exact .inl h
      · exact .inr ⟨y, by omega, h1, h2⟩

/- Least ways that are closed make a solution. -/
theorem rowMin_sol {fs : List F} {n m : Nat} {t : Tab} (h : TInv fs n m t) (hmn : m ≤ n) (fit : ∀ f ∈ fs, FitF n f) : SolTo fs m (fun x => rowMin t x m) := by
  intro f hf hx hy
  unfold Hold
  have hc := h.fact f hf
  have fc := (fit f hf).c1
  have hfar : t f.x.toNat f.y.toNat ≠ FAR := by unfold FAR; omega
  have h1 := rowMin_le t f.x.toNat m f.y.toNat hy
  rcases rowMin_is t f.y.toNat m with h0 | ⟨y, hym, h0, h2⟩
  · simp only [h0]; omega
  · have h3 := rowMin_le t f.x.toNat m y hym
    have h4 := h.clos f.y.toNat f.x.toNat y hy (by omega) (by omega) hfar (by unfold FAR; omega)
    simp only [h0]
    omega

theorem TInv.bounds {fs : List F} {n m : Nat} {t : Tab} (h : TInv fs n m t) (fit : FitS n fs) (hmn : m ≤ n) {x y : Nat} (hx : x < n) (hy : y < n) (hf : t x y ≠ FAR) : -1152939096792891392 ≤ t x y ∧ t x y ≤ 853221023154176 := by
  refine ⟨?_, h.upper (by have := fit.n2; omega) hx hy hf⟩
  have hp : ∃ p : Nat → Int, SolTo fs m p ∧ ∀ i, -1152921504606846976 ≤ p i ∧ p i ≤ 0 := by
    rcases Nat.eq_zero_or_pos m with h0 | h0
    · exact ⟨fun _ => 0, fun f _ hx => by omega, fun _ => ⟨by show (-1152921504606846976 : Int) ≤ 0; decide, by show (0 : Int) ≤ 0; decide⟩⟩
    · let gs := fs.filter fun f => decide (f.x.toNat < m) && decide (f.y.toNat < m)
      have hg : ∀ f, f ∈ gs ↔ f ∈ fs ∧ f.x.toNat < m ∧ f.y.toNat < m := fun f => by simp [gs, List.mem_filter]
      have hfit : FitS m gs := ⟨h0, by have := fit.n2; omega, Nat.le_trans (List.length_filter_le _ _) fit.len, fun f hf => by
        obtain ⟨h1, h2, h3⟩ := (hg f).1 hf
        have ft := fit.fit f h1
        have := ft.x0; have := ft.y0
        exact ⟨ft.x0, by omega, ft.y0, by omega, ft.c0, ft.c1⟩⟩
      obtain ⟨p, hp1, hp2⟩ := bounded_sol hfit ⟨fun x => rowMin t x m, fun f hf => by
        obtain ⟨h1, h2, h3⟩ := (hg f).1 hf
        exact rowMin_sol h hmn fit.fit f h1 h2 h3⟩
      exact ⟨p, fun f h1 h2 h3 => hp1 f ((hg f).2 ⟨h1, h2, h3⟩), hp2⟩
  obtain ⟨p, hp1, hp2⟩ := hp
  have := (h.low m p (Nat.le_refl _) hmn hp2 hp1).e1 x y hx hy hf
  omega

/- The table of the facts alone. -/
theorem init_is (fs : List F) (fit : ∀ f ∈ fs, 0 ≤ f.x ∧ 0 ≤ f.y) : ∀ k, k ≤ fs.length → ∀ x y, initT fs k x y = FAR ∨ (x = y ∧ initT fs k x y = 0) ∨ ∃ f ∈ fs, f.x.toNat = x ∧ f.y.toNat = y ∧ initT fs k x y = f.c
  | 0, _, x, y => by
    by_cases h : x = y
    · exact .inr (.inl ⟨h, by simp [initT, h]⟩)
    · exact .inl (by simp [initT, h])
  | k + 1, hk, x, y => by
    have ih := init_is fs fit k (by omega) x y
    have hm : fs.getD k zeroF ∈ fs := by
      rw [List.getD_eq_getElem?_getD, List.getElem?_eq_getElem (show k < fs.length by omega)]
      exact List.getElem_mem _
    simp only [initT]
    split
    · by_cases h : x = (fs.getD k zeroF).x.toNat ∧ y = (fs.getD k zeroF).y.toNat
      · refine .inr (.inr ⟨_, hm, h.1.symm, h.2.symm, ?_⟩)
        rw [h.1, h.2, setT_same]
      · rw [setT_other _ _ h]
        exact ih
    · exact ih

theorem init_fact (fs : List F) : ∀ k, k ≤ fs.length → ∀ j f, j < k → fs[j]? = some f → initT fs k f.x.toNat f.y.toNat ≤ f.c
  | 0, _, j, f, h, _ => by omega
  | k + 1, hk, j, f, hj, hf => by
    have ih : j < k → initT fs k f.x.toNat f.y.toNat ≤ f.c := fun h => init_fact fs k (by omega) j f h hf
    simp only [initT]
    by_cases e : j = k
    · subst e
      rw [getD_of hf]
      split
      · rw [setT_same]; omega
      · omega
    · have ih := ih (by omega)
      split
      · rename_i hlt
        by_cases h : f.x.toNat = (fs.getD k zeroF).x.toNat ∧ f.y.toNat = (fs.getD k zeroF).y.toNat
        · rw [h.1, h.2, setT_same]
          rw [h.1, h.2] at ih
          omega
        · rw [setT_other _ _ h]; exact ih
      · exact ih

theorem TInv.start {fs : List F} {n : Nat} (fit : FitS n fs) : TInv fs n 0 (initT fs fs.length) := by
  have his := init_is fs (fun f hf => ⟨(fit.fit f hf).x0, (fit.fit f hf).y0⟩) fs.length (Nat.le_refl _)
  refine ⟨fun _ _ => rfl, fun k hk => by omega, fun f hf => ?_, fun k x y hk => by omega, fun x y hx hy hf => ?_, fun M p hM hMn hp hs => ?_, fun v hv x y hx hy hf => ?_⟩
  · obtain ⟨j, hj, he⟩ := List.mem_iff_getElem.1 hf
    exact init_fact fs fs.length (Nat.le_refl _) j f hj (by rw [List.getElem?_eq_getElem hj, he])
  · refine ⟨[], List.nodup_nil, fun k hk => by simp at hk, ?_⟩
    rcases his x y with h | ⟨_, h⟩ | ⟨f, hf2, _, _, h⟩
    · exact absurd h hf
    · rw [h]; simp
    · rw [h]; have := (fit.fit f hf2).c1; simp; omega
  · have hv : ∀ x y, initT fs fs.length x y ≠ FAR → -8796093022208 ≤ initT fs fs.length x y := fun x y hf => by
      rcases his x y with h | ⟨_, h⟩ | ⟨f, hf2, _, _, h⟩
      · exact absurd h hf
      · rw [h]; omega
      · rw [h]; exact (fit.fit f hf2).c0
    refine ⟨fun x y _ _ hf => by have := hv x y hf; omega, fun k y _ _ hf => by have := hv k y hf; have := hp k; omega, fun x k _ _ hf => by have := hv x k hf; have := hp k; omega, fun k l hk hl hf => ?_⟩
    rcases his k l with h | ⟨e, h⟩ | ⟨f, hf2, h1, h2, h⟩
    · exact absurd h hf
    · rw [h, e]; omega
    · rw [h]
      have := hs f hf2 (by omega) (by omega)
      unfold Hold at this
      rw [h1, h2] at this
      exact this
  · rcases his x y with h | ⟨e, h⟩ | ⟨f, hf2, h1, h2, h⟩
    · exact absurd h hf
    · rw [h, e]; omega
    · rw [h]
      have := hv f hf2
      unfold Hold at this
      rw [h1, h2] at this
      exact this

theorem upd_le (t : Tab) (m x y : Nat) : upd t m x y ≤ t x y := by
  unfold upd
  split
  · omega
  · split
    · omega
    · split <;> omega
theorem upd_sum {t : Tab} {m x y : Nat} (h1 : t x m ≠ FAR) (h2 : t m y ≠ FAR) : upd t m x y ≤ t x m + t m y := by
  unfold upd
  rw [if_neg h1, if_neg h2]
  split <;> omega
theorem upd_is (t : Tab) (m x y : Nat) : upd t m x y = t x y ∨ (t x m ≠ FAR ∧ t m y ≠ FAR ∧ upd t m x y = t x m + t m y ∧ t x m + t m y < t x y) := by
  unfold upd
  split
  · exact .inl rfl
  · split
    · exact .inl rfl
    · split
      · exact .inr ⟨by assumption, by assumption, rfl, by assumption⟩
      · exact .inl rfl

theorem TInv.step {fs : List F} {n m : Nat} {t : Tab} (h : TInv fs n m t) (fit : FitS n fs) (hmn : m < n) (hz : initT fs fs.length m m = 0) (hd : ∀ x, x < n → upd t m x x = t x x) {t' : Tab} (ht : ∀ x y, x < n → y < n → t' x y = upd t m x y) :
    TInv fs n (m + 1) t' := by
  have hb : ∀ x y, x < n → y < n → t x y ≠ FAR → -1152939096792891392 ≤ t x y ∧ t x y ≤ 853221023154176 := fun x y hx hy hf => h.bounds fit (by omega) hx hy hf
  have hmm : t m m = 0 := (h.diag m hmn).trans hz
  have hfin : ∀ x y, x < n → y < n → t' x y ≠ FAR → t x y ≠ FAR ∨ (t x m ≠ FAR ∧ t m y ≠ FAR) := fun x y hx hy hf => by
    rw [ht x y hx hy] at hf
    rcases upd_is t m x y with e | ⟨h1, h2, _, _⟩
    · rw [e] at hf; exact .inl hf
    · exact .inr ⟨h1, h2⟩
  have hfin2 : ∀ x y, x < n → y < n → t x y ≠ FAR → t' x y ≠ FAR := fun x y hx hy hf => by
    rw [ht x y hx hy]
    have h1 := upd_le t m x y
    have h2 := hb x y hx hy hf
    unfold FAR
    omega
  have hfin3 : ∀ x y, x < n → y < n → t x m ≠ FAR → t m y ≠ FAR → t' x y ≠ FAR := fun x y hx hy h1 h2 => by
    rw [ht x y hx hy]
    have h3 := upd_sum h1 h2
    have h4 := hb x m hx hmn h1
    have h5 := hb m y hmn hy h2
    unfold FAR
    omega
  refine ⟨fun x hx => by rw [ht x x hx hx, hd x hx, h.diag x hx], fun k hk => ?_, fun f hf => ?_, fun k x y hk hx hy h1 h2 => ?_, fun x y hx hy hf => ?_, fun M p hM hMn hp hs => ?_, fun v hv x y hx hy hf => ?_⟩
  · rcases Nat.lt_succ_iff_lt_or_eq.1 hk with hlt | rfl
    · exact h.zero k hlt
    · exact hz
  · have ft := fit.fit f hf
    have := ft.x0; have := ft.xn; have := ft.y0; have := ft.yn
    rw [ht _ _ (by omega) (by omega)]
    exact Int.le_trans (upd_le _ _ _ _) (h.fact f hf)
  · have hkn : k < n := by omega
    rw [ht x k hx hkn] at h1 ⊢
    rw [ht k y hkn hy] at h2 ⊢
    rw [ht x y hx hy]
    have hle := upd_le t m x y
    rcases Nat.lt_succ_iff_lt_or_eq.1 hk with hlt | rfl
    · rcases upd_is t m x k with e1 | ⟨a1, a2, e1, _⟩ <;> rcases upd_is t m k y with e2 | ⟨b1, b2, e2, _⟩
      · rw [e1] at h1; rw [e2] at h2
        rw [e1, e2]
        have := h.clos k x y hlt hx hy h1 h2
        omega
      · rw [e1] at h1
        rw [e1, e2]
        have c1 := h.clos k x m hlt hx hmn h1 b1
        have b0 := hb x k hx hkn h1
        have b3 := hb k m hkn hmn b1
        have hxm : t x m ≠ FAR := by unfold FAR; omega
        have := upd_sum hxm b2
        omega
      · rw [e2] at h2
        rw [e1, e2]
        have c1 := h.clos k m y hlt hmn hy a2 h2
        have b0 := hb m k hmn hkn a2
        have b3 := hb k y hkn hy h2
        have hmy : t m y ≠ FAR := by unfold FAR; omega
        have := upd_sum a1 hmy
        omega
      · rw [e1, e2]
        have c1 := h.clos k m m hlt hmn hmn a2 b1
        have := upd_sum a1 b2
        omega
    · rw [upd_col hmm] at h1 ⊢
      rw [upd_row hmm] at h2 ⊢
      exact upd_sum h1 h2
  · by_cases hold : t x y = FAR
    · rcases hfin x y hx hy hf with hc | ⟨h1, h2⟩
      · exact absurd hold hc
      · obtain ⟨L1, n1, p1, u1⟩ := h.up x m hx hmn h1
        obtain ⟨L2, n2, p2, u2⟩ := h.up m y hmn hy h2
        have hdis : ∀ k, k ∈ L1 → k ∈ L2 → False := fun k hk1 hk2 => by
          obtain ⟨a1, a2, a3⟩ := p1 k hk1
          obtain ⟨c1, c2, c3⟩ := p2 k hk2
          have := h.clos k x y a1 hx hy a2 c3
          have d1 := hb x k hx (by omega) a2
          have d2 := hb k y (by omega) hy c3
          rw [hold] at this
          unfold FAR at this
          omega
        refine ⟨L1 ++ m :: L2, ?_, ?_, ?_⟩
        · rw [List.nodup_append]
          refine ⟨n1, List.nodup_cons.2 ⟨fun hm => ?_, n2⟩, fun a ha b hb2 hab => ?_⟩
          · have := (p2 m hm).1; omega
          · subst hab
            rcases List.mem_cons.1 hb2 with e | e
            · subst e; have := (p1 a ha).1; omega
            · exact hdis a ha e
        · intro k hk
          rcases List.mem_append.1 hk with hk | hk
          · obtain ⟨a1, a2, a3⟩ := p1 k hk
            exact ⟨by omega, hfin2 x k hx (by omega) a2, hfin3 k y (by omega) hy a3 h2⟩
          · rcases List.mem_cons.1 hk with rfl | hk
            · exact ⟨by omega, hfin2 x k hx hmn h1, hfin2 k y hmn hy h2⟩
            · obtain ⟨a1, a2, a3⟩ := p2 k hk
              exact ⟨by omega, hfin3 x k hx (by omega) h1 a2, hfin2 k y (by omega) hy a3⟩
        · have := upd_sum h1 h2
          rw [ht x y hx hy, List.length_append, List.length_cons]
          omega
    · obtain ⟨L, n1, p1, u1⟩ := h.up x y hx hy hold
      refine ⟨L, n1, fun k hk => ?_, ?_⟩
      · obtain ⟨a1, a2, a3⟩ := p1 k hk
        exact ⟨by omega, hfin2 x k hx (by omega) a2, hfin2 k y (by omega) hy a3⟩
      · rw [ht x y hx hy]
        have := upd_le t m x y
        omega
  · have hl := h.low M p (by omega) hMn hp hs
    refine ⟨fun x y hx hy hf => ?_, fun k y hk hy hf => ?_, fun x k hx hk hf => ?_, fun k l hk hl2 hf => ?_⟩
    · rw [ht x y hx hy] at hf ⊢
      rcases upd_is t m x y with e | ⟨h1, h2, e, _⟩
      · rw [e] at hf ⊢; exact hl.e1 x y hx hy hf
      · rw [e]; have := hl.e3 x m hx (by omega) h1; have := hl.e2 m y (by omega) hy h2; omega
    · rw [ht k y (by omega) hy] at hf ⊢
      rcases upd_is t m k y with e | ⟨h1, h2, e, _⟩
      · rw [e] at hf ⊢; exact hl.e2 k y hk hy hf
      · rw [e]; have := hl.e4 k m hk (by omega) h1; have := hl.e2 m y (by omega) hy h2; omega
    · rw [ht x k hx (by omega)] at hf ⊢
      rcases upd_is t m x k with e | ⟨h1, h2, e, _⟩
      · rw [e] at hf ⊢; exact hl.e3 x k hx hk hf
      · rw [e]; have := hl.e3 x m hx (by omega) h1; have := hl.e4 m k (by omega) hk h2; omega
    · rw [ht k l (by omega) (by omega)] at hf ⊢
      rcases upd_is t m k l with e | ⟨h1, h2, e, _⟩
      · rw [e] at hf ⊢; exact hl.e4 k l hk hl2 hf
      · rw [e]; have := hl.e4 k m hk (by omega) h1; have := hl.e4 m l (by omega) hl2 h2; omega
  · rw [ht x y hx hy] at hf ⊢
    rcases upd_is t m x y with e | ⟨h1, h2, e, _⟩
    · rw [e] at hf ⊢; exact h.snd v hv x y hx hy hf
    · rw [e]
      have := h.snd v hv x m hx hmn h1
      have := h.snd v hv m y hmn hy h2
      omega

theorem init_diag {fs : List F} {n : Nat} (fit : FitS n fs) (x : Nat) : initT fs fs.length x x ≤ 0 ∧ -8796093022208 ≤ initT fs fs.length x x := by
  have hle : ∀ k, initT fs k x x ≤ 0 := by
    intro k
    induction k with
    | zero => simp [initT]
    | succ k ih =>
      simp only [initT]
      split
      · rename_i hlt
        by_cases h : x = (fs.getD k zeroF).x.toNat ∧ x = (fs.getD k zeroF).y.toNat
        · have e : setT (initT fs k) (fs.getD k zeroF).x.toNat (fs.getD k zeroF).y.toNat (fs.getD k zeroF).c x x = (fs.getD k zeroF).c := by
            simp only [setT, if_pos h]
          rw [e]
          rw [← h.1, ← h.2] at hlt
          omega
        · rw [setT_other _ _ h]; exact ih
      · exact ih
  refine ⟨hle _, ?_⟩
  have := hle fs.length
  rcases init_is fs (fun f hf => ⟨(fit.fit f hf).x0, (fit.fit f hf).y0⟩) fs.length (Nat.le_refl _) x x with h | ⟨_, h⟩ | ⟨f, hf, _, _, h⟩
  · rw [h] at this; unfold FAR at this; omega
  · omega
  · rw [h]; exact (fit.fit f hf).c0

theorem cellS_le (t : Tab) (m x y x' y' : Nat) : cellS t m x y x' y' ≤ t x' y' := by
  by_cases h : x' = x ∧ y' = y
  · rw [h.1, h.2, cellS_at]
    split
    · omega
    · split <;> omega
  · rw [cellS_other _ h]; omega
theorem rowS_le (t : Tab) (m x : Nat) : ∀ k x' y', rowS t m x k x' y' ≤ t x' y'
  | 0, _, _ => Int.le_refl _
  | k + 1, x', y' => Int.le_trans (cellS_le _ _ _ _ _ _) (rowS_le t m x k x' y')

/- No row of a round ended it: then the round is a good one. -/
theorem round_good {fs : List F} {n m : Nat} (fit : FitS n fs) (hmn : m < n) (h : TInv fs n m (fwT fs n m)) (hns : ∀ x, x < n → ¬ stops fs n m x) :
    initT fs fs.length m m = 0 ∧ (∀ x, x < n → upd (fwT fs n m) m x x = fwT fs n m x x) ∧ ∀ x y, x < n → y < n → fwT fs n (m + 1) x y = upd (fwT fs n m) m x y := by
  have hz : initT fs fs.length m m = 0 := by
    have hd := init_diag fit m
    apply Classical.byContradiction
    intro hne
    apply hns m hmn
    have e : rndS (fwT fs n m) m n m m m = fwT fs n m m m := rndS_ge m (Nat.le_refl _)
    have hdm := h.diag m hmn
    have hf : rndS (fwT fs n m) m n m m m ≠ FAR := by rw [e, hdm]; unfold FAR; omega
    refine ⟨hf, ?_⟩
    show rowAll (rndS (fwT fs n m) m n m) m m n m m < 0
    unfold rowAll
    rw [if_neg hf]
    have := rowS_le (rndS (fwT fs n m) m n m) m m n m m
    rw [e, hdm] at this
    omega
  have hmm : fwT fs n m m m = 0 := (h.diag m hmn).trans hz
  have hg := rndS_good hmm hmn
  refine ⟨hz, fun x hx => ?_, fun x y hx hy => ?_⟩
  · rcases upd_is (fwT fs n m) m x x with e | ⟨h1, h2, e, hlt⟩
    · exact e
    · exfalso
      apply hns x hx
      refine ⟨by rw [rndS_ge x (Nat.le_refl _)]; exact h1, ?_⟩
      rw [hg (x + 1) (by omega) x x hx hx, if_pos (by omega), e]
      have := (init_diag fit x).1
      rw [← h.diag x hx] at this
      omega
  · show rndS (fwT fs n m) m n n x y = _
    rw [hg n (Nat.le_refl _) x y hx hy, if_pos hx]

theorem fw_inv {fs : List F} {n : Nat} (fit : FitS n fs) : ∀ m, m ≤ n → (∀ m' x, m' < m → x < n → ¬ stops fs n m' x) → TInv fs n m (fwT fs n m)
  | 0, _, _ => TInv.start fit
  | m + 1, hm, hns => by
    have ih := fw_inv fit m (by omega) (fun m' x h1 h2 => hns m' x (by omega) h2)
    obtain ⟨h1, h2, h3⟩ := round_good fit (by omega) ih (fun x hx => hns m x (by omega) hx)
    exact ih.step fit (by omega) h1 h2 h3

end Go.Proofs.Ytejnjaikalckiaa
