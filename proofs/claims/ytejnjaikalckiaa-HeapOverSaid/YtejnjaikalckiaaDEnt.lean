/- The contract of diff.Entails. -/
import Derived.Test.YtejnjaikalckiaaDSys
import Derived.Deep.RegionLawGrows
import Derived.Deep.RegionWith
import Derived.Deep.DeepCutAuto
namespace Go.Proofs.Ytejnjaikalckiaa
open Go.RowKit

/- Solve's answer for a system that may be asked, in one form: two slices. -/
def SolveAns (m : Nat) (fs : List F) (base : Nat) (w' : World) (A1 : Option Addr) (n1 : Nat) (A2 : Option Addr) (n2 c2 : Nat) : Prop :=
  (∃ l g, Plain m fs l ∧ A1 = some ⟨g, 0, none⟩ ∧ n1 = m ∧ n2 = 0 ∧ base ≤ g ∧ Blk w' g (ints l) 2) ∨
  (∃ c, IsCircle fs c ∧ c.length ≤ m ∧ n1 = 0 ∧ n2 = c.length ∧ w'.ownsRow base 3 1 (.slice A2 n2 c2) c.length (nats c))

def SolveOne (m : Nat) (fs : List F) (w : World) (e : Ending) (w' : World) : Prop :=
  ∃ A1 n1 c1 A2 n2 c2, e = .returned (.tuple #[.slice A1 n1 c1, .slice A2 n2 c2, .int .i64 0]) ∧ SolveAns m fs w.heap.size w' A1 n1 A2 n2 c2 ∧ Below w.heap.size w w'

theorem solve_one (n : Nat) (A : Option Addr) (cap : Nat) (fs : List F) (w : World) (hfs : FactsAt w w.heap.size A fs) (fit : FitS n fs) :
    Calls Try.prog 50 #[.int .i64 n, .slice A fs.length cap] w (SolveOne n fs w) := by
  refine (solve_ok n A cap fs w hfs fit).mono ?_
  rintro e w' ⟨hb, ⟨l, g, hp, rfl, hg, hblk⟩ | ⟨v, c, hc, hl, rfl, hown⟩⟩
  · exact ⟨_, _, _, _, _, _, rfl, .inl ⟨l, g, hp, rfl, rfl, rfl, hg, hblk⟩, hb⟩
  · obtain ⟨g, cap2, rfl, _, _⟩ := hown.form hc.ne
    exact ⟨_, _, _, _, _, _, rfl, .inr ⟨c, hc, hl, rfl, rfl, hown⟩, hb⟩

def factCells (fs : List F) : List Value := fs.flatMap fCells
theorem factCells_len (fs : List F) : (factCells fs).length = fs.length * 3 := by
  unfold factCells
  induction fs with
  | nil => rfl
  | cons f l ih => rw [List.flatMap_cons, List.length_append, ih]; simp [fCells]; omega
theorem factCells_get : ∀ (fs : List F) (i : Nat) (f : F) (q : Nat), fs[i]? = some f → q < 3 → (factCells fs)[i * 3 + q]? = (fCells f)[q]?
  | [], i, f, q, h, _ => by simp at h
  | u :: fs, 0, f, q, h, hq => by
    have e : u = f := by simpa using h
    subst e
    show (fCells u ++ factCells fs)[0 * 3 + q]? = _
    rw [Nat.zero_mul, Nat.zero_add, List.getElem?_append_left (by simpa [fCells] using hq)]
  | u :: fs, i + 1, f, q, h, hq => by
    show (fCells u ++ factCells fs)[(i + 1) * 3 + q]? = _
    rw [List.getElem?_append_right (by simp [fCells]; omega)]
    have e : (i + 1) * 3 + q - (fCells u).length = i * 3 + q := by simp [fCells]; omega
    rw [e]
    exact factCells_get fs i f q (by simpa using h) hq
theorem factCells_one (fs : List F) : ∀ u ∈ factCells fs, u.oneCell' = true := by
  intro u hu
  simp only [factCells, List.mem_flatMap, fCells, List.mem_cons, List.not_mem_nil, or_false] at hu
  obtain ⟨f, _, rfl | rfl | rfl⟩ := hu <;> rfl
theorem factCells_append (a b : List F) : factCells (a ++ b) = factCells a ++ factCells b := by simp [factCells]

/- A list of facts in memory, cell by cell. -/
theorem FactsAt.cells {w : World} {B : Nat} {A : Option Addr} {fs : List F} (h : FactsAt w B A fs) : ∀ b, A = some b → ∀ j u, (factCells fs)[j]? = some u → w.cell? (b.add j) = some u := by
  intro b hA j u hj
  have hjl : j < (factCells fs).length := (List.getElem?_eq_some_iff.1 hj).1
  rw [factCells_len] at hjl
  obtain ⟨b', off, e, _, hc⟩ := h (by omega)
  rw [hA] at e
  cases e
  have hi : j / 3 < fs.length := by omega
  have hf : fs[j / 3]? = some fs[j / 3] := List.getElem?_eq_getElem hi
  obtain ⟨c0, c1, c2⟩ := hc _ _ hf
  have hg := factCells_get fs (j / 3) _ (j % 3) hf (Nat.mod_lt _ (by omega))
  rw [show j / 3 * 3 + j % 3 = j by omega, hj] at hg
  rw [Addr.add_mid]
  have h3 : j % 3 = 0 ∨ j % 3 = 1 ∨ j % 3 = 2 := by omega
  rcases h3 with h3 | h3 | h3
  · rw [h3] at hg; simp [fCells] at hg
    rw [show off + j = off + j / 3 * 3 by omega, c0, hg]
  · rw [h3] at hg; simp [fCells] at hg
    rw [show off + j = off + j / 3 * 3 + 1 by omega, c1, hg]
  · rw [h3] at hg; simp [fCells] at hg
    rw [show off + j = off + j / 3 * 3 + 2 by omega, c2, hg]

theorem FactsAt.of_own {w : World} {base cap : Nat} {A : Option Addr} {fs : List F} {t : TypeId} (h : w.ownsRow base t 3 (.slice A fs.length cap) fs.length (factCells fs)) : FactsAt w w.heap.size A fs := by
  intro hn
  obtain ⟨g, cap', hv, hg1, hg2⟩ := h.form hn
  cases hv
  refine ⟨g, 0, rfl, hg2, fun i f hf => ?_⟩
  have hi : i < fs.length := (List.getElem?_eq_some_iff.1 hf).1
  have c : ∀ q, q < 3 → w.cell? ⟨g, i * 3 + q, none⟩ = (fCells f)[q]? := fun q hq => by
    rw [h.cellAt (i * 3 + q) (by omega), factCells_get fs i f q hf hq]
  rw [Nat.zero_add]
  exact ⟨c 0 (by omega), c 1 (by omega), c 2 (by omega)⟩

theorem own_slice {w : World} {base : Nat} {e : TypeId} {size n : Nat} {v : Value} {xs : List Value} (h : w.ownsRow base e size v n xs) : ∃ A cap, v = .slice A n cap ∧ n ≤ cap ∧ cap ≤ maxLen := by
  rcases h.2 with ⟨rfl, rfl⟩ | ⟨g, cap, cur, rfl, _, _, h1, h2, _⟩
  · exact ⟨none, 0, rfl, Nat.le_refl _, Nat.zero_le _⟩
  · exact ⟨_, cap, rfl, h1, h2⟩

/- One fact in a block of its own. -/
theorem FactsAt.lit (w : World) (f : F) (e : TypeId) (g : Nat) (hg : g = w.heap.size) : FactsAt (w.alloc (.cells #[.int .i64 f.x, .int .i64 f.y, .int .i64 f.c] e)) (w.heap.size + 1) (some ⟨g, 0, none⟩) [f] := by
  subst hg
  intro _
  refine ⟨_, 0, rfl, by omega, fun i f' hf => ?_⟩
  have hb : Blk (w.alloc (.cells [Value.int .i64 f.x, .int .i64 f.y, .int .i64 f.c].toArray e)) w.heap.size [.int .i64 f.x, .int .i64 f.y, .int .i64 f.c] e := Blk.new w _ _
  match i, hf with
  | 0, hf =>
    cases hf
    exact ⟨hb.cell 0, hb.cell 1, hb.cell 2⟩

def turnF (g : F) : F := ⟨g.y, g.x, -g.c - 1⟩

theorem turn_fit {n : Nat} {g : F} (h : FitF n g) (hc : g.c ≠ 8796093022208) : FitF n (turnF g) := by
  have := h.c0; have := h.c1
  exact ⟨h.y0, h.yn, h.x0, h.xn, by show -8796093022208 ≤ -g.c - 1; omega, by show -g.c - 1 ≤ 8796093022208; omega⟩

/- The error that Entails answers. -/
def entB (n : Int) (g : F) (fs : List F) : Int := if refuseB n (fs ++ [g]) = 0 ∧ g.c = 8796093022208 then 2 else refuseB n (fs ++ [g])

theorem ent_sol {fs : List F} {g : F} (v : Nat → Int) : Sol (fs ++ [turnF g]) v ↔ Sol fs v ∧ ¬ Hold v g := by
  have e : Hold v (turnF g) ↔ ¬ Hold v g := by
    unfold Hold turnF
    simp only
    omega
  constructor
  · intro h
    exact ⟨fun f hf => h f (List.mem_append_left _ hf), e.1 (h _ (List.mem_append_right _ (List.mem_singleton.2 rfl)))⟩
  · rintro ⟨h1, h2⟩ f hf
    rcases List.mem_append.1 hf with h | h
    · exact h1 f h
    · rw [List.mem_singleton.1 h]
      exact e.2 h2

def EntOk (fs : List F) (g : F) (w : World) (e : Ending) (w' : World) : Prop :=
  ∃ b, e = .returned (.tuple #[.bool b, .int .i64 0]) ∧ (b = true ↔ Ent fs g) ∧ Below w.heap.size w w'

theorem ent_of {m : Nat} {fs : List F} {g : F} {base n1 n2 c2 : Nat} {w : World} {A1 A2 : Option Addr} (h : SolveAns m (fs ++ [turnF g]) base w A1 n1 A2 n2 c2) : (decide (0 < n2) = true ↔ Ent fs g) := by
  rcases h with ⟨l, b, ⟨_, _, v, hv, _⟩, _, _, h0, _⟩ | ⟨c, hc, _, _, h0, _⟩
  · rw [h0]
    constructor
    · intro h; simp at h
    · intro h
      have h1 := (ent_sol v).1 hv.sol
      exact absurd (h v h1.1) h1.2
  · constructor
    · intro _ v hv
      apply Classical.byContradiction
      intro h2
      exact hc.none v ((ent_sol v).2 ⟨hv, h2⟩)
    · intro _
      have := hc.ne
      simp
      omega

theorem Try.infoLeq : (Try.prog.info? 45).map (fun i => (i.zero, i.size, i.bytes)) = some (some (.agg #[.int .i64 0, .int .i64 0, .int .i64 0]), 3, 24) := by kernel_rfl

theorem none_of {w : World} {B : Nat} {A : Option Addr} {fs : List F} (h : FactsAt w B A fs) : A = none → fs.length = 0 ∧ fs.length = 0 := fun hA => by
  rcases Nat.eq_zero_or_pos fs.length with h0 | h0
  · exact ⟨h0, h0⟩
  · obtain ⟨b, off, e, _⟩ := h h0
    rw [hA] at e
    cases e
theorem lit_cells (w : World) (f : F) (e : TypeId) : ∀ j u, (fCells f)[j]? = some u → (w.alloc (.cells #[.int .i64 f.x, .int .i64 f.y, .int .i64 f.c] e)).cell? ((⟨w.heap.size, 0, none⟩ : Addr).add j) = some u := by
  intro j u hj
  rw [Addr.add_mid, Nat.zero_add, cell_of_row _ _ _ _ _ _ (heap_alloc_new w _)]
  simpa [fCells] using hj
theorem one_cells (f : F) : ∀ u ∈ fCells f, u.oneCell' = true := by
  intro u hu
  simp only [fCells, List.mem_cons, List.not_mem_nil, or_false] at hu
  rcases hu with rfl | rfl | rfl <;> rfl

theorem solve_snoc (n : Nat) (A : Option Addr) (cap : Nat) (fs : List F) (f : F) (w : World) {base : Nat} {t : TypeId} (h : w.ownsRow base t 3 (.slice A (fs.length + 1) cap) (fs.length + 1) (factCells fs ++ fCells f)) (fit : FitS n (fs ++ [f])) :
    Calls Try.prog 50 #[.int .i64 n, .slice A (fs.length + 1) cap] w (SolveOne n (fs ++ [f]) w) := by
  have e : (fs ++ [f]).length = fs.length + 1 := by simp
  have e2 : factCells fs ++ fCells f = factCells (fs ++ [f]) := by rw [factCells_append]; simp [factCells]
  rw [← e, e2] at h
  rw [← e]
  exact solve_one n A cap _ w (FactsAt.of_own h) fit

set_option maxHeartbeats 4000000 in
theorem entails_ok (n : Nat) (g : F) (A : Option Addr) (cap : Nat) (fs : List F) (w : World) (hfs : FactsAt w w.heap.size A fs) (hcap : fs.length ≤ cap) (hcm : cap ≤ maxLen) (hg : FitF n g) (hgc : g.c ≠ 8796093022208) (fit : FitS n (fs ++ [turnF g])) :
    Calls Try.prog 44 #[.int .i64 n, .agg #[.int .i64 g.x, .int .i64 g.y, .int .i64 g.c], .slice A fs.length cap] w (EntOk fs g w) := by
  have hn1 := fit.n1
  have hn2 := fit.n2
  have hlen : fs.length < 768 := by have := fit.len; simp at this; omega
  have t0 : ((fs.length : Int) ≥ 768) = False := by simp; omega
  have h1 : ¬ (768 : Int) ≤ (fs.length : Int) := by omega
  have t1 : (g.c == 8796093022208) = false := by simpa using hgc
  have HFIT := Lib.hid fit
  have HF := Lib.hid hfs
  have HG := Lib.hid hg
  have HG1 : Hid (FitS n [g]) := Lib.hid ⟨hn1, hn2, by simp, fun f hf => by rw [List.mem_singleton.1 hf]; exact hg⟩
  clear fit hfs hg hgc t0
  go_enter Try.func44, Try.ntmps44
  go_wp2_with fail
  have hr := refusal_any n (some ⟨w.heap.size + 1, 0, none⟩) 1 [g] ((w.alloc (.cells #[.int .i64 g.x, .int .i64 g.y, .int .i64 g.c] 45)).alloc (.cells #[.int .i64 g.x, .int .i64 g.y, .int .i64 g.c] 45))
    ((FactsAt.lit (w.alloc (.cells #[.int .i64 g.x, .int .i64 g.y, .int .i64 g.c] 45)) g 45 (w.heap.size + 1) (by simp)).more (by simp)) (by unfold maxLen; simp)
  rw [List.length_singleton, refuse_fit HG1.out] at hr
  refine hr.mono ?_
  clear hr
  rintro e w1 ⟨rfl, hb⟩
  have hgb : Blk w1 w.heap.size [.int .i64 g.x, .int .i64 g.y, .int .i64 g.c] 45 := ((Blk.new w [.int .i64 g.x, .int .i64 g.y, .int .i64 g.c] 45).alloc _).below hb (by simp; omega)
  have g0 := hgb.cell 0
  have g1 := hgb.cell 1
  have g2 := hgb.cell 2
  simp only [List.getElem?_cons_zero, List.getElem?_cons_succ] at g0 g1 g2
  have HB1 := Lib.hid ((((Below.refl w.heap.size w).alloc (Nat.le_refl _) _).alloc (by simp) _).trans (hb.mono (by simp; omega)))
  have hw1 : w.heap.size < w1.heap.size := hgb.lt
  clear hb hgb
  go_wp2_with fail
  obtain ⟨i0, hi, hz0, hz1, hz2⟩ := info_parts Try.infoLeq
  go_region_law (first
    | (go_simp; go_at_call 61; refine (clip_any A fs.length cap _ hcap hcm).mono ?_; rintro e w' ⟨rfl, rfl⟩)
    | (go_simp; go_at_call 62; refine (turned_any g _ HG.out.c0 HG.out.c1).mono ?_; rintro e w2 ⟨rfl, hb2⟩; have HB2 := Lib.hid (HB1.out.trans ((Below.refl _ _).drew.trans (hb2.mono (Nat.le_of_lt hw1)))); have hw2 : w.heap.size ≤ w2.heap.size := HB2.out.size; clear hb2)
    | (refine step_append_grows rfl (.tmp 27) (.tmp 30) 23 rfl 45 i0 _ 3 24 Try.underlying23 hi hz0 hz1 hz2 rfl (by decide) A fs.length fs.length (factCells fs) rfl (none_of HF.out) (factCells_len fs) ((HF.out.below (HB2.out.alloc hw2 _) (Nat.le_refl _)).cells) ⟨w2.heap.size, 0, none⟩ 1 1 (fCells (turnF g)) rfl rfl (lit_cells w2 (turnF g) _) (one_cells _) (Nat.lt_succ_self _) (by unfold maxLen; omega) (by omega) ?_; intro v' w3 hown hgrow; obtain ⟨A', cap', rfl, _, _⟩ := own_slice hown; have HO := Lib.hid hown; have HB3 := Lib.hid ((HB2.out.alloc hw2 _).grown hgrow (by simp; omega) (fun _ h => by cases h)); clear hown hgrow)
    | (go_simp; go_at_call 50; refine (solve_snoc n A' cap' fs (turnF g) _ HO.out HFIT.out).mono ?_; rintro e w4 ⟨A1, n1, c1, A2, n2, c2, rfl, hans, hb4⟩; have HANS := Lib.hid hans; have HB4 := Lib.hid (HB3.out.trans (hb4.mono HB3.out.size)); clear hans hb4))
  all_goals
    go_wp2
    go_ret2
    exact ⟨_, rfl, ent_of HANS.out, HB4.out⟩

end Go.Proofs.Ytejnjaikalckiaa
