/- Plain accounts of layer 4, without the program: facts, solutions, circles, the descent and what it comes to. No conditions. -/
namespace Go.Proofs.Ytejnjaikalckiaa

structure F where
  x : Int
  y : Int
  c : Int

def oddB (n : Int) (f : F) : Bool := decide (f.x < 0) || decide (n ≤ f.x) || decide (f.y < 0) || decide (n ≤ f.y) || decide (f.c < -8796093022208) || decide (8796093022208 < f.c)

structure FitF (n : Nat) (f : F) : Prop where
  x0 : 0 ≤ f.x
  xn : f.x < n
  y0 : 0 ≤ f.y
  yn : f.y < n
  c0 : -8796093022208 ≤ f.c
  c1 : f.c ≤ 8796093022208

/- A system that may be asked. -/
structure FitS (n : Nat) (fs : List F) : Prop where
  n1 : 1 ≤ n
  n2 : n ≤ 96
  len : fs.length ≤ 768
  fit : ∀ f ∈ fs, FitF n f

def refuseB (n : Int) (fs : List F) : Int := if 768 < fs.length then 22 else if (decide (n < 1) || decide (96 < n) || fs.any (oddB n)) = true then 2 else 0

theorem oddB_false {n : Nat} {f : F} (h : oddB n f = false) : FitF n f := by
  unfold oddB at h
  simp only [Bool.or_eq_false_iff, decide_eq_false_iff_not] at h
  exact ⟨by omega, by omega, by omega, by omega, by omega, by omega⟩

theorem oddB_fit {n : Nat} {f : F} (h : FitF n f) : oddB n f = false := by
  have := h.x0; have := h.xn; have := h.y0; have := h.yn; have := h.c0; have := h.c1
  unfold oddB
  simp only [Bool.or_eq_false_iff, decide_eq_false_iff_not]
  omega

theorem refuse_ok {n : Int} {fs : List F} (h : refuseB n fs = 0) : ∃ k : Nat, n = k ∧ FitS k fs := by
  unfold refuseB at h
  split at h
  · cases h
  · split at h
    · cases h
    · rename_i h1 h2
      simp only [Bool.or_eq_true, decide_eq_true_eq, List.any_eq_true, not_or, not_exists, not_and] at h2
      refine ⟨n.toNat, by omega, ⟨by omega, by omega, by omega, fun f hf => ?_⟩⟩
      have h3 := h2.2 f hf
      have e : ((n.toNat : Nat) : Int) = n := by omega
      apply oddB_false
      rw [e]
      simpa using h3

theorem refuse_fit {n : Nat} {fs : List F} (h : FitS n fs) : refuseB n fs = 0 := by
  unfold refuseB
  have h1 := h.n1; have h2 := h.n2; have h3 := h.len
  rw [if_neg (by omega), if_neg]
  simp only [Bool.or_eq_true, decide_eq_true_eq, List.any_eq_true, not_or, not_exists, not_and]
  refine ⟨⟨by omega, by omega⟩, fun f hf => ?_⟩
  rw [oddB_fit (h.fit f hf)]
  simp

theorem refuse_cases (n : Int) (fs : List F) : refuseB n fs = 22 ∨ refuseB n fs = 2 ∨ refuseB n fs = 0 := by
  unfold refuseB
  split
  · exact .inl rfl
  · split
    · exact .inr (.inl rfl)
    · exact .inr (.inr rfl)

/- Numbers fulfil facts. -/
def Hold (v : Nat → Int) (f : F) : Prop := v f.x.toNat - v f.y.toNat ≤ f.c
def Sol (fs : List F) (v : Nat → Int) : Prop := ∀ f ∈ fs, Hold v f
def Ent (fs : List F) (g : F) : Prop := ∀ v, Sol fs v → Hold v g

/- Of all solutions without a number above 0 the one whose numbers are the greatest. -/
structure Greatest (n : Nat) (fs : List F) (v : Nat → Int) : Prop where
  pos : ∀ i, i < n → v i ≤ 0
  sol : Sol fs v
  most : ∀ u, (∀ i, i < n → u i ≤ 0) → Sol fs u → ∀ i, i < n → u i ≤ v i

theorem Greatest.unique {n : Nat} {fs gs : List F} {v u : Nat → Int} (h : Greatest n fs v) (k : Greatest n gs u) (hs : ∀ f, f ∈ fs ↔ f ∈ gs) : ∀ i, i < n → v i = u i := by
  intro i hi
  have h1 := h.most u k.pos (fun f hf => k.sol f ((hs f).1 hf)) i hi
  have h2 := k.most v h.pos (fun f hf => h.sol f ((hs f).2 hf)) i hi
  omega

def zeroF : F := ⟨0, 0, 0⟩

/- A circle of facts. -/
structure IsCircle (fs : List F) (c : List Nat) : Prop where
  ne : 0 < c.length
  lt : ∀ i, i < c.length → c.getD i 0 < fs.length
  nx : ∀ i, i < c.length → (fs.getD (c.getD i 0) zeroF).y = (fs.getD (c.getD ((i + 1) % c.length) 0) zeroF).x
  neg : (c.map fun k => (fs.getD k zeroF).c).sum < 0

theorem sum_take_succ (l : List Int) (k : Nat) (h : k < l.length) : (l.take (k + 1)).sum = (l.take k).sum + l.getD k 0 := by
  rw [List.take_succ_eq_append_getElem h, List.sum_append, List.getD_eq_getElem?_getD, List.getElem?_eq_getElem h]
  simp

theorem IsCircle.none {fs : List F} {c : List Nat} (h : IsCircle fs c) (v : Nat → Int) : ¬ Sol fs v := by
  intro hs
  have key : ∀ k, k ≤ c.length → v (fs.getD (c.getD 0 0) zeroF).x.toNat - v (fs.getD (c.getD (k % c.length) 0) zeroF).x.toNat ≤ ((c.map fun j => (fs.getD j zeroF).c).take k).sum := by
    intro k
    induction k with
    | zero => intro _; simp
    | succ k ih =>
      intro hk
      have h1 := ih (by omega)
      have hlt := h.lt k (by omega)
      have hm : fs.getD (c.getD k 0) zeroF ∈ fs := by
        rw [List.getD_eq_getElem?_getD (l := fs), List.getElem?_eq_getElem hlt]
        exact List.getElem_mem hlt
      have h2 := hs _ hm
      unfold Hold at h2
      rw [h.nx k (by omega)] at h2
      rw [sum_take_succ _ _ (by rw [List.length_map]; omega)]
      have e : (c.map fun j => (fs.getD j zeroF).c).getD k 0 = (fs.getD (c.getD k 0) zeroF).c := by
        rw [List.getD_eq_getElem?_getD, List.getElem?_map, List.getD_eq_getElem?_getD (l := c), List.getElem?_eq_getElem (show k < c.length by omega)]
        rfl
      rw [e]
      rw [Nat.mod_eq_of_lt (show k < c.length by omega)] at h1
      omega
  have h3 := key c.length (Nat.le_refl _)
  rw [Nat.mod_self, List.take_of_length_le (by simp)] at h3
  have := h.neg
  omega

/- The descent. -/
structure St where
  num : List Int
  br : List Nat
  low : Int

def St.at (s : St) (v : Nat) : Int := s.num.getD v 0

def St.step (s : St) (i : Nat) (f : F) : St :=
  if s.at f.y.toNat + f.c < s.at f.x.toNat then ⟨s.num.set f.x.toNat (s.at f.y.toNat + f.c), s.br.set f.x.toNat i, f.x⟩ else s

def rnd (fs : List F) (s : St) : Nat → St
  | 0 => s
  | k + 1 => (rnd fs s k).step k (fs.getD k zeroF)

def runs (fs : List F) (n : Nat) : Nat → St
  | 0 => ⟨List.replicate n 0, List.replicate n 0, -1⟩
  | r + 1 => rnd fs { runs fs n r with low := -1 } fs.length

structure Inv (fs : List F) (n r i : Nat) (s : St) (last tm : Nat → Nat) (t : Nat) : Prop where
  ln : s.num.length = n
  lb : s.br.length = n
  le : ∀ v, last v ≤ r
  tl : ∀ v, tm v < t
  pos : ∀ v, s.at v ≤ 0
  lo : ∀ v, -((t : Int) * 8796093022208) ≤ s.at v
  edge : ∀ v, 1 ≤ last v → ∃ f, fs[s.br.getD v 0]? = some f ∧ f.x.toNat = v ∧ last v ≤ last f.y.toNat + 1 ∧ s.at f.y.toNat + f.c ≤ s.at v ∧ (tm v ≤ tm f.y.toNat → s.at f.y.toNat + f.c < s.at v)
  seen : ∀ j f, j < i → fs[j]? = some f → last f.y.toNat + 1 ≤ r → s.at f.x.toNat ≤ s.at f.y.toNat + f.c
  old : ∀ j f, i ≤ j → fs[j]? = some f → last f.y.toNat + 2 ≤ r → s.at f.x.toNat ≤ s.at f.y.toNat + f.c
  most : ∀ u : Nat → Int, (∀ k, k < n → u k ≤ 0) → Sol fs u → ∀ k, k < n → u k ≤ s.at k
  low : (s.low = -1 ∧ ∀ j f, j < i → fs[j]? = some f → s.at f.x.toNat ≤ s.at f.y.toNat + f.c) ∨ (∃ v : Nat, v < n ∧ s.low = v ∧ last v = r)

theorem at_set (s : St) (x : Nat) (m : Int) (b : List Nat) (l : Int) (hx : x < s.num.length) (v : Nat) : (⟨s.num.set x m, b, l⟩ : St).at v = if v = x then m else s.at v := by
  unfold St.at
  rw [List.getD_eq_getElem?_getD, List.getElem?_set, List.getD_eq_getElem?_getD]
  by_cases h : v = x
  · subst h
    simp [hx]
  · rw [if_neg (fun e => h e.symm), if_neg h]

theorem br_set (l : List Nat) (x i : Nat) (hx : x < l.length) (v : Nat) : (l.set x i).getD v 0 = if v = x then i else l.getD v 0 := by
  rw [List.getD_eq_getElem?_getD, List.getElem?_set, List.getD_eq_getElem?_getD]
  by_cases h : v = x
  · subst h
    simp [hx]
  · rw [if_neg (fun e => h e.symm), if_neg h]

theorem Inv.start (fs : List F) (n : Nat) : Inv fs n 1 0 ⟨List.replicate n 0, List.replicate n 0, -1⟩ (fun _ => 0) (fun _ => 0) 1 := by
  have e : ∀ v, (⟨List.replicate n 0, List.replicate n 0, -1⟩ : St).at v = 0 := fun v => by
    unfold St.at
    rw [List.getD_eq_getElem?_getD, List.getElem?_replicate]
    split <;> rfl
  refine ⟨by simp, by simp, fun _ => by omega, fun _ => by omega, fun v => by rw [e]; omega, fun v => by rw [e]; omega, fun v h => by omega, fun j f h => by omega, fun j f _ _ h => by omega, fun u hu _ k hk => by rw [e]; exact hu k hk, .inl ⟨rfl, fun j f h => by omega⟩⟩

theorem Inv.next {fs : List F} {n r t : Nat} {s : St} {last tm : Nat → Nat} (h : Inv fs n r fs.length s last tm t) : Inv fs n (r + 1) 0 { s with low := -1 } last tm t := by
  refine ⟨h.ln, h.lb, fun v => by have := h.le v; omega, h.tl, h.pos, h.lo, h.edge, fun j f hj => by omega, fun j f _ hf hl => ?_, h.most, .inl ⟨rfl, fun j f h => by omega⟩⟩
  exact h.seen j f (List.getElem?_eq_some_iff.1 hf).1 hf (by omega)

theorem Inv.step {fs : List F} {n r i t : Nat} {s : St} {last tm : Nat → Nat} (h : Inv fs n r i s last tm t) {f : F} (hf : fs[i]? = some f) (ft : FitF n f) :
    ∃ last' tm', Inv fs n r (i + 1) (s.step i f) last' tm' (t + 1) := by
  have hx : f.x.toNat < n := by have := ft.xn; have := ft.x0; omega
  have hc0 := ft.c0
  have hc1 := ft.c1
  unfold St.step
  by_cases hl : s.at f.y.toNat + f.c < s.at f.x.toNat
  · rw [if_pos hl]
    have ea := at_set s f.x.toNat (s.at f.y.toNat + f.c) (s.br.set f.x.toNat i) f.x (by rw [h.ln]; exact hx)
    have eb := br_set s.br f.x.toNat i (by rw [h.lb]; exact hx)
    have hlast : r ≤ last f.y.toNat + 1 := by
      rcases Nat.lt_or_ge (last f.y.toNat + 1) r with h1 | h1
      · have := h.old i f (Nat.le_refl _) hf (by omega)
        omega
      · exact h1
    have hdec : ∀ v, (if v = f.x.toNat then s.at f.y.toNat + f.c else s.at v) ≤ s.at v := fun v => by
      by_cases e : v = f.x.toNat
      · rw [if_pos e, e]; omega
      · rw [if_neg e]; omega
    refine ⟨fun v => if v = f.x.toNat then r else last v, fun v => if v = f.x.toNat then t else tm v, ?_⟩
    refine ⟨by simp [h.ln], by simp [h.lb], fun v => ?_, fun v => ?_, fun v => ?_, fun v => ?_, fun v hv => ?_, fun j g hj hg hq => ?_, fun j g hj hg hq => ?_, fun u hu hs k hk => ?_, ?_⟩
    · by_cases e : v = f.x.toNat
      · simp [e]
      · simp only [if_neg e]; exact h.le v
    · by_cases e : v = f.x.toNat
      · simp [e]
      · simp only [if_neg e]; have := h.tl v; omega
    · rw [ea]
      exact Int.le_trans (hdec v) (h.pos v)
    · rw [ea]
      have h1 := h.lo v
      have h2 := h.lo f.y.toNat
      by_cases e : v = f.x.toNat
      · rw [if_pos e]; omega
      · rw [if_neg e]; omega
    · by_cases e : v = f.x.toNat
      · refine ⟨f, ?_, e.symm, ?_, ?_, fun ht => ?_⟩
        · show fs[(s.br.set f.x.toNat i).getD v 0]? = _
          rw [eb, if_pos e]; exact hf
        · simp only [if_pos e]
          by_cases e2 : f.y.toNat = f.x.toNat
          · simp only [if_pos e2]; omega
          · simp only [if_neg e2]; exact hlast
        · rw [ea, ea, if_pos e]
          have := hdec f.y.toNat
          omega
        · rw [ea, ea, if_pos e]
          by_cases e2 : f.y.toNat = f.x.toNat
          · rw [if_pos e2]
            have e3 : s.at f.y.toNat = s.at f.x.toNat := by rw [e2]
            omega
          · simp only [if_pos e, if_neg e2] at ht
            have := h.tl f.y.toNat
            omega
      · simp only [if_neg e] at hv
        obtain ⟨g, g1, g2, g3, g4, g5⟩ := h.edge v hv
        refine ⟨g, ?_, g2, ?_, ?_, fun ht => ?_⟩
        · show fs[(s.br.set f.x.toNat i).getD v 0]? = _
          rw [eb, if_neg e]; exact g1
        · simp only [if_neg e]
          by_cases e2 : g.y.toNat = f.x.toNat
          · simp only [if_pos e2]; have := h.le v; omega
          · simp only [if_neg e2]; exact g3
        · rw [ea, ea, if_neg e]
          have := hdec g.y.toNat
          omega
        · rw [ea, ea, if_neg e]
          by_cases e2 : g.y.toNat = f.x.toNat
          · rw [if_pos e2]
            rw [e2] at g4
            omega
          · rw [if_neg e2]
            simp only [if_neg e, if_neg e2] at ht
            exact g5 ht
    · rw [ea, ea]
      by_cases e2 : g.y.toNat = f.x.toNat
      · simp only [if_pos e2] at hq
        omega
      · simp only [if_neg e2] at hq
        rw [if_neg e2]
        by_cases ej : j = i
        · subst ej
          rw [hf] at hg
          cases hg
          rw [if_pos rfl]
          omega
        · have h1 := h.seen j g (by omega) hg hq
          have := hdec g.x.toNat
          omega
    · rw [ea, ea]
      by_cases e2 : g.y.toNat = f.x.toNat
      · simp only [if_pos e2] at hq
        omega
      · simp only [if_neg e2] at hq
        rw [if_neg e2]
        have h1 := h.old j g (by omega) hg hq
        have := hdec g.x.toNat
        omega
    · rw [ea]
      by_cases e : k = f.x.toNat
      · rw [if_pos e]
        have h1 := hs f (List.mem_of_getElem? hf)
        unfold Hold at h1
        have h2 := h.most u hu hs f.y.toNat (by have := ft.yn; have := ft.y0; omega)
        rw [e]
        omega
      · rw [if_neg e]; exact h.most u hu hs k hk
    · exact .inr ⟨f.x.toNat, hx, by have := ft.x0; show f.x = _; omega, by simp⟩
  · rw [if_neg hl]
    refine ⟨last, tm, h.ln, h.lb, h.le, fun v => by have := h.tl v; omega, h.pos, fun v => by have := h.lo v; omega, h.edge, fun j g hj hg hq => ?_, fun j g hj hg hq => h.old j g (by omega) hg hq, h.most, ?_⟩
    · by_cases ej : j = i
      · subst ej
        rw [hf] at hg
        cases hg
        omega
      · exact h.seen j g (by omega) hg hq
    · rcases h.low with ⟨h1, h2⟩ | h1
      · refine .inl ⟨h1, fun j g hj hg => ?_⟩
        by_cases ej : j = i
        · subst ej
          rw [hf] at hg
          cases hg
          omega
        · exact h2 j g (by omega) hg
      · exact .inr h1

/- Going back along the facts that brought numbers down. -/
def par (fs : List F) (br : List Nat) (v : Nat) : Nat := (fs.getD (br.getD v 0) zeroF).y.toNat
def it (p : Nat → Nat) : Nat → Nat → Nat
  | 0, v => v
  | k + 1, v => p (it p k v)

theorem it_add (p : Nat → Nat) (a b v : Nat) : it p (a + b) v = it p b (it p a v) := by
  induction b with
  | zero => rfl
  | succ b ih => show p (it p (a + b) v) = p (it p b (it p a v)); rw [ih]

theorem pigeon : ∀ (n : Nat) (f : Nat → Nat), (∀ k, k ≤ n → f k < n) → ∃ i j, i < j ∧ j ≤ n ∧ f i = f j
  | 0, f, h => absurd (h 0 (Nat.le_refl _)) (by omega)
  | n + 1, f, h => by
    by_cases hex : ∃ i, i ≤ n ∧ f i = f (n + 1)
    · obtain ⟨i, hi, he⟩ := hex
      exact ⟨i, n + 1, by omega, by omega, he⟩
    · have hne : ∀ i, i ≤ n → f i ≠ f (n + 1) := fun i hi he => hex ⟨i, hi, he⟩
      obtain ⟨i, j, hij, hj, he⟩ := pigeon n (fun k => if f (n + 1) < f k then f k - 1 else f k) (fun k hk => by
        have h1 := hne k hk
        have h2 := h k (by omega)
        have h3 := h (n + 1) (Nat.le_refl _)
        show (if f (n + 1) < f k then f k - 1 else f k) < n
        split <;> omega)
      refine ⟨i, j, hij, by omega, ?_⟩
      have h1 := hne i (by omega)
      have h2 := hne j (by omega)
      split at he <;> split at he <;> omega

/- The circle that the last of n rounds leads to. -/
structure Loops (fs : List F) (n : Nat) (s : St) (u p : Nat) : Prop where
  p1 : 1 ≤ p
  pn : p ≤ n
  back : it (par fs s.br) p u = u
  lt : ∀ k, it (par fs s.br) k u < n
  br : ∀ k, s.br.getD (it (par fs s.br) k u) 0 < fs.length
  isx : ∀ k, (fs.getD (s.br.getD (it (par fs s.br) k u) 0) zeroF).x.toNat = it (par fs s.br) k u
  neg : ∀ k, 1 ≤ k → it (par fs s.br) k u = u → ((List.range k).map fun m => (fs.getD (s.br.getD (it (par fs s.br) m u) 0) zeroF).c).sum < 0

theorem sum_range_succ (g : Nat → Int) (k : Nat) : ((List.range (k + 1)).map g).sum = ((List.range k).map g).sum + g k := by
  rw [List.range_succ, List.map_append, List.sum_append]
  simp

theorem getD_of {α : Type} {l : List α} {i : Nat} {a d : α} (h : l[i]? = some a) : l.getD i d = a := by
  rw [List.getD_eq_getElem?_getD, h]
  rfl

theorem Inv.loops {fs : List F} {n t v : Nat} {s : St} {last tm : Nat → Nat} (h : Inv fs n n fs.length s last tm t) (fit : ∀ f ∈ fs, FitF n f) (hv : v < n) (hlast : last v = n) :
    (∀ k, k < n → it (par fs s.br) k v < n ∧ s.br.getD (it (par fs s.br) k v) 0 < fs.length) ∧ ∃ p, Loops fs n s (it (par fs s.br) n v) p := by
  have hpar : ∀ u f, fs[s.br.getD u 0]? = some f → par fs s.br u = f.y.toNat := fun u f hf => by unfold par; rw [getD_of hf]
  have hgood : ∀ k, k < n → it (par fs s.br) k v < n ∧ n ≤ last (it (par fs s.br) k v) + k := by
    intro k
    induction k with
    | zero => intro _; exact ⟨hv, by show n ≤ last v + 0; omega⟩
    | succ k ih =>
      intro hk
      obtain ⟨h1, h2⟩ := ih (by omega)
      obtain ⟨f, g1, g2, g3, _, _⟩ := h.edge _ (show 1 ≤ last (it (par fs s.br) k v) by omega)
      have ft := fit f (List.mem_of_getElem? g1)
      show par fs s.br (it (par fs s.br) k v) < n ∧ n ≤ last (par fs s.br (it (par fs s.br) k v)) + (k + 1)
      rw [hpar _ _ g1]
      have := ft.yn; have := ft.y0
      exact ⟨by omega, by omega⟩
  have hbr : ∀ u, 1 ≤ last u → s.br.getD u 0 < fs.length := fun u hu => by
    obtain ⟨f, g1, _⟩ := h.edge u hu
    exact (List.getElem?_eq_some_iff.1 g1).1
  refine ⟨fun k hk => ⟨(hgood k hk).1, hbr _ (by have := (hgood k hk).2; omega)⟩, ?_⟩
  have hstep : ∀ k, k ≤ n → it (par fs s.br) k v < n := by
    intro k hk
    rcases Nat.eq_or_lt_of_le hk with rfl | hlt
    · match k, hv, hgood with
      | k + 1, _, hgood =>
        obtain ⟨h1, h2⟩ := hgood k (by omega)
        obtain ⟨f, g1, g2, g3, _, _⟩ := h.edge _ (show 1 ≤ last (it (par fs s.br) k v) by omega)
        have ft := fit f (List.mem_of_getElem? g1)
        show par fs s.br (it (par fs s.br) k v) < k + 1
        rw [hpar _ _ g1]
        have := ft.yn; have := ft.y0
        omega
    · exact (hgood k hlt).1
  obtain ⟨i, j, hij, hj, he⟩ := pigeon n (fun k => it (par fs s.br) k v) hstep
  have hper : ∀ m, it (par fs s.br) (j + m) v = it (par fs s.br) (i + m) v := fun m => by rw [it_add, it_add, he]
  have hall : ∀ k, 1 ≤ last (it (par fs s.br) k v) ∧ it (par fs s.br) k v < n := by
    intro k
    induction k using Nat.strongRecOn with
    | _ k ih =>
      rcases Nat.lt_or_ge k n with hlt | hge
      · have := hgood k hlt
        exact ⟨by omega, this.1⟩
      · have e := hper (k - j)
        rw [show j + (k - j) = k by omega] at e
        rw [e]
        exact ih _ (by omega)
  have hu : ∀ k, it (par fs s.br) k (it (par fs s.br) n v) = it (par fs s.br) (n + k) v := fun k => by rw [it_add]
  have hnext : ∀ k, it (par fs s.br) (k + 1) (it (par fs s.br) n v) = par fs s.br (it (par fs s.br) k (it (par fs s.br) n v)) := fun _ => rfl
  have hlow : ∀ k, 1 ≤ last (it (par fs s.br) k (it (par fs s.br) n v)) := fun k => by rw [hu]; exact (hall _).1
  refine ⟨j - i, by omega, by omega, ?_, fun k => by rw [hu]; exact (hall _).2, fun k => hbr _ (hlow k), fun k => ?_, fun k hk hback => ?_⟩
  · rw [hu]
    have e := hper (n - i)
    rw [show j + (n - i) = n + (j - i) by omega, show i + (n - i) = n by omega] at e
    exact e
  · obtain ⟨f, g1, g2, _⟩ := h.edge _ (hlow k)
    rw [getD_of g1]
    exact g2
  · generalize hU : it (par fs s.br) n v = u at *
    have key : ∀ k, ((List.range k).map fun m => (fs.getD (s.br.getD (it (par fs s.br) m u) 0) zeroF).c).sum ≤ s.at u - s.at (it (par fs s.br) k u) ∧
        (((List.range k).map fun m => (fs.getD (s.br.getD (it (par fs s.br) m u) 0) zeroF).c).sum < s.at u - s.at (it (par fs s.br) k u) ∨ tm (it (par fs s.br) k u) + k ≤ tm u) := by
      intro k
      induction k with
      | zero => exact ⟨by simp [it], .inr (by simp [it])⟩
      | succ k ih =>
        obtain ⟨f, g1, g2, g3, g4, g5⟩ := h.edge _ (hlow k)
        rw [sum_range_succ, hnext k, hpar _ _ g1, getD_of g1]
        rcases ih with ⟨i1, i2⟩
        refine ⟨by omega, ?_⟩
        rcases i2 with i2 | i2
        · exact .inl (by omega)
        · rcases Nat.lt_or_ge (tm f.y.toNat) (tm (it (par fs s.br) k u)) with hlt | hge
          · exact .inr (by omega)
          · have := g5 hge
            exact .inl (by omega)
    have := key k
    rw [hback] at this
    rcases this with ⟨_, h2 | h2⟩
    · omega
    · omega

/- The list that is read off. -/
def ring (fs : List F) (s : St) (u k : Nat) : List Nat := (List.range k).map fun m => s.br.getD (it (par fs s.br) m u) 0

theorem ring_get (fs : List F) (s : St) (u k m : Nat) (h : m < k) : (ring fs s u k).getD m 0 = s.br.getD (it (par fs s.br) m u) 0 := by
  unfold ring
  rw [List.getD_eq_getElem?_getD, List.getElem?_map, List.getElem?_range h]
  rfl

theorem Loops.circle {fs : List F} {n u p k : Nat} {s : St} (h : Loops fs n s u p) (fit : ∀ f ∈ fs, FitF n f) (hk : 1 ≤ k) (hb : it (par fs s.br) k u = u) : IsCircle fs (ring fs s u k) := by
  have hl : (ring fs s u k).length = k := by simp [ring]
  refine ⟨by omega, fun i hi => ?_, fun i hi => ?_, ?_⟩
  · rw [ring_get _ _ _ _ _ (by omega)]
    exact h.br i
  · rw [hl] at hi ⊢
    rw [ring_get _ _ _ _ _ hi, ring_get _ _ _ _ _ (Nat.mod_lt _ (by omega))]
    have e : it (par fs s.br) ((i + 1) % k) u = it (par fs s.br) (i + 1) u := by
      rcases Nat.lt_or_ge (i + 1) k with h1 | h1
      · rw [Nat.mod_eq_of_lt h1]
      · have : i + 1 = k := by omega
        rw [this, Nat.mod_self, hb]
        rfl
    rw [e]
    have h1 := h.isx (i + 1)
    have hmem : ∀ k, fs.getD (s.br.getD (it (par fs s.br) k u) 0) zeroF ∈ fs := fun k => by
      rw [List.getD_eq_getElem?_getD (l := fs), List.getElem?_eq_getElem (h.br k)]
      exact List.getElem_mem _
    have f1 := (fit _ (hmem (i + 1))).x0
    have f2 := (fit _ (hmem i)).y0
    have h2 : it (par fs s.br) (i + 1) u = (fs.getD (s.br.getD (it (par fs s.br) i u) 0) zeroF).y.toNat := rfl
    have h3 := h1.trans h2
    omega
  · have := h.neg k hk hb
    unfold ring
    rw [List.map_map]
    exact this

/- What is known behind r rounds, and k facts of the next one. -/
theorem inv_rnd {fs : List F} {n r t : Nat} {s : St} {last tm : Nat → Nat} (h : Inv fs n r 0 s last tm t) (fit : ∀ f ∈ fs, FitF n f) : ∀ k, k ≤ fs.length → ∃ last' tm', Inv fs n r k (rnd fs s k) last' tm' (t + k)
  | 0, _ => ⟨last, tm, h⟩
  | k + 1, hk => by
    obtain ⟨l, m, hi⟩ := inv_rnd h fit k (by omega)
    have hf : fs[k]? = some (fs.getD k zeroF) := by
      rw [List.getD_eq_getElem?_getD, List.getElem?_eq_getElem (show k < fs.length by omega)]
      rfl
    exact hi.step hf (fit _ (List.mem_of_getElem? hf))

theorem inv_runs {fs : List F} {n : Nat} (fit : ∀ f ∈ fs, FitF n f) : ∀ r, ∃ last tm, Inv fs n (r + 1) 0 { runs fs n r with low := -1 } last tm (r * fs.length + 1)
  | 0 => ⟨_, _, by rw [Nat.zero_mul]; exact Inv.start fs n⟩
  | r + 1 => by
    obtain ⟨l, m, hi⟩ := inv_runs (fs := fs) (n := n) fit r
    obtain ⟨l', m', hj⟩ := inv_rnd hi fit fs.length (Nat.le_refl _)
    refine ⟨l', m', ?_⟩
    have := hj.next
    rw [show (r + 1) * fs.length + 1 = r * fs.length + 1 + fs.length by rw [Nat.succ_mul]; omega]
    exact this

/- Behind a round that brought nothing down. -/
theorem rest_greatest {fs : List F} {n r : Nat} (fit : ∀ f ∈ fs, FitF n f) (hl : (runs fs n (r + 1)).low = -1) : Greatest n fs (runs fs n (r + 1)).at := by
  obtain ⟨l, m, hi⟩ := inv_runs (fs := fs) (n := n) fit r
  obtain ⟨l', m', hj⟩ := inv_rnd hi fit fs.length (Nat.le_refl _)
  have e : rnd fs { runs fs n r with low := -1 } fs.length = runs fs n (r + 1) := rfl
  rw [e] at hj
  refine ⟨fun i _ => hj.pos i, fun f hf => ?_, hj.most⟩
  obtain ⟨j, hjl, he⟩ := List.mem_iff_getElem.1 hf
  rcases hj.low with ⟨_, h2⟩ | ⟨v, _, h2, _⟩
  · have := h2 j f hjl (by rw [List.getElem?_eq_getElem hjl, he])
    unfold Hold
    omega
  · rw [hl] at h2
    omega

/- Behind the last of n rounds, if it brought one down. -/
theorem last_loops {fs : List F} {n : Nat} (fit : ∀ f ∈ fs, FitF n f) (hn : 1 ≤ n) (hl : (runs fs n n).low ≠ -1) :
    ∃ v : Nat, v < n ∧ (runs fs n n).low = v ∧ (∀ k, k < n → it (par fs (runs fs n n).br) k v < n ∧ (runs fs n n).br.getD (it (par fs (runs fs n n).br) k v) 0 < fs.length) ∧
      ∃ p, Loops fs n (runs fs n n) (it (par fs (runs fs n n).br) n v) p := by
  obtain ⟨r, rfl⟩ : ∃ r, n = r + 1 := ⟨n - 1, by omega⟩
  obtain ⟨l, m, hi⟩ := inv_runs (fs := fs) (n := r + 1) fit r
  obtain ⟨l', m', hj⟩ := inv_rnd hi fit fs.length (Nat.le_refl _)
  have e : rnd fs { runs fs (r + 1) r with low := -1 } fs.length = runs fs (r + 1) (r + 1) := rfl
  rw [e] at hj
  rcases hj.low with ⟨h1, _⟩ | ⟨v, h1, h2, h3⟩
  · exact absurd h1 hl
  · exact ⟨v, h1, h2, hj.loops fit h1 h3⟩

/- Numbers stay within bounds. -/
theorem at_bounds {fs : List F} {n r k : Nat} (fit : ∀ f ∈ fs, FitF n f) (hm : fs.length ≤ 768) (hr : r ≤ 95) (hk : k ≤ fs.length) (v : Nat) :
    -1152921504606846976 ≤ (rnd fs { runs fs n r with low := -1 } k).at v ∧ (rnd fs { runs fs n r with low := -1 } k).at v ≤ 0 := by
  obtain ⟨l, m, hi⟩ := inv_runs (fs := fs) (n := n) fit r
  obtain ⟨l', m', hj⟩ := inv_rnd hi fit k hk
  refine ⟨?_, hj.pos v⟩
  have h1 := hj.lo v
  have h2 : r * fs.length ≤ 95 * 768 := Nat.mul_le_mul hr hm
  omega

theorem rnd_lens {fs : List F} {s : St} : ∀ k, (rnd fs s k).num.length = s.num.length ∧ (rnd fs s k).br.length = s.br.length
  | 0 => ⟨rfl, rfl⟩
  | k + 1 => by
    have h := rnd_lens (fs := fs) (s := s) k
    show ((rnd fs s k).step k (fs.getD k zeroF)).num.length = _ ∧ ((rnd fs s k).step k (fs.getD k zeroF)).br.length = _
    unfold St.step
    split
    · simp [h]
    · exact h

theorem runs_lens (fs : List F) (n : Nat) : ∀ r, (runs fs n r).num.length = n ∧ (runs fs n r).br.length = n
  | 0 => by simp [runs]
  | r + 1 => by
    have h := runs_lens fs n r
    have h2 := rnd_lens (fs := fs) (s := { runs fs n r with low := -1 }) fs.length
    show (rnd fs { runs fs n r with low := -1 } fs.length).num.length = n ∧ (rnd fs { runs fs n r with low := -1 } fs.length).br.length = n
    rw [h2.1, h2.2]
    exact h

/- What Solve answers for a system that may be asked. -/
def Plain (n : Nat) (fs : List F) (l : List Int) : Prop :=
  l.length = n ∧ (∀ i, i < n → -1152921504606846976 ≤ l.getD i 0 ∧ l.getD i 0 ≤ 1152921504606846976) ∧ ∃ v, Greatest n fs v ∧ ∀ i, i < n → l.getD i 0 = v i - v 0

end Go.Proofs.Ytejnjaikalckiaa
