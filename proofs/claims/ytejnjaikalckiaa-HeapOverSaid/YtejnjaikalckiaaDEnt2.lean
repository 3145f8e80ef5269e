/- The contract of diff.Entails where it refuses, and both in one. -/
import Derived.Test.YtejnjaikalckiaaDEnt
namespace Go.Proofs.Ytejnjaikalckiaa
open Go.RowKit

theorem any_snoc (n : Int) (fs : List F) (g : F) : (fs ++ [g]).any (oddB n) = (fs.any (oddB n) || oddB n g) := by simp [List.any_append]

theorem refuse_many {n : Int} {fs : List F} {g : F} (h : 768 ≤ fs.length) : refuseB n (fs ++ [g]) = 22 := by
  unfold refuseB
  rw [if_pos (by simp; omega)]
theorem refuse_goal {n : Int} {fs : List F} {g : F} (h : fs.length < 768) (hg : refuseB n [g] ≠ 0) : refuseB n (fs ++ [g]) = 2 := by
  unfold refuseB at hg ⊢
  rw [if_neg (by simp)] at hg
  rw [if_neg (by simp; omega), if_pos]
  rw [any_snoc]
  simp only [ne_eq, ite_eq_right_iff, Classical.not_imp] at hg
  have h1 := hg.1
  simp only [List.any_cons, List.any_nil, Bool.or_false] at h1
  cases h2 : decide (n < 1)
  · cases h3 : decide (96 < n)
    · rw [h2, h3] at h1
      simp only [Bool.false_or] at h1 ⊢
      rw [h1]
      simp
    · simp
  · simp
theorem refuse_not_many {n : Int} {fs : List F} {g : F} (h : fs.length < 768) : refuseB n (fs ++ [g]) = 2 ∨ refuseB n (fs ++ [g]) = 0 := by
  unfold refuseB
  rw [if_neg (by simp; omega)]
  split
  · exact .inl rfl
  · exact .inr rfl
theorem refuse_turn {n : Nat} {fs : List F} {g : F} (hg : FitF n g) (hc : g.c ≠ 8796093022208) : refuseB n (fs ++ [turnF g]) = refuseB n (fs ++ [g]) := by
  unfold refuseB
  rw [any_snoc, any_snoc, oddB_fit hg, oddB_fit (turn_fit hg hc)]
  simp only [List.length_append, List.length_singleton]

theorem entB_many {n : Int} {fs : List F} {g : F} (h : 768 ≤ fs.length) : entB n g fs = 22 := by
  unfold entB
  rw [refuse_many h]
  simp
theorem entB_goal {n : Int} {fs : List F} {g : F} (h : fs.length < 768) (hg : refuseB n [g] ≠ 0) : entB n g fs = 2 := by
  unfold entB
  rw [refuse_goal h hg]
  simp
theorem entB_max {n : Int} {fs : List F} {g : F} (h : fs.length < 768) (hc : g.c = 8796093022208) : entB n g fs = 2 := by
  unfold entB
  rcases refuse_not_many (n := n) (g := g) h with h1 | h1 <;> simp [h1, hc]
theorem entB_turn {n : Nat} {fs : List F} {g : F} (hg : FitF n g) (hc : g.c ≠ 8796093022208) : entB n g fs = refuseB n (fs ++ [turnF g]) := by
  unfold entB
  rw [refuse_turn hg hc, if_neg (fun h => hc h.2)]

theorem entB_ok {n : Int} {fs : List F} {g : F} (h : entB n g fs = 0) : ∃ m : Nat, n = m ∧ FitF m g ∧ g.c ≠ 8796093022208 ∧ FitS m (fs ++ [turnF g]) ∧ FitS m (fs ++ [g]) := by
  have hc : g.c ≠ 8796093022208 := by
    intro hc
    unfold entB at h
    rcases refuse_cases n (fs ++ [g]) with h1 | h1 | h1 <;> simp [h1, hc] at h
  unfold entB at h
  rw [if_neg (fun h => hc h.2)] at h
  obtain ⟨m, rfl, hm⟩ := refuse_ok h
  have hg := hm.fit g (by simp)
  refine ⟨m, rfl, hg, hc, ?_, hm⟩
  obtain ⟨k, hk, hf⟩ := refuse_ok ((refuse_turn hg hc).trans h)
  have : k = m := by omega
  subst this
  exact hf

theorem solve_snoc_no (n : Int) (A : Option Addr) (cap : Nat) (fs : List F) (f : F) (w : World) {base : Nat} {t : TypeId} (h : w.ownsRow base t 3 (.slice A (fs.length + 1) cap) (fs.length + 1) (factCells fs ++ fCells f)) (hl : fs.length < 768) (hr : refuseB n (fs ++ [f]) ≠ 0) :
    Calls Try.prog 50 #[.int .i64 n, .slice A (fs.length + 1) cap] w fun e w' => e = .returned (.tuple #[.slice none 0 0, .slice none 0 0, .int .i64 (refuseB n (fs ++ [f]))]) ∧ Below w.heap.size w w' := by
  have e : (fs ++ [f]).length = fs.length + 1 := by simp
  have e2 : factCells fs ++ fCells f = factCells (fs ++ [f]) := by rw [factCells_append]; simp [factCells]
  rw [← e, e2] at h
  rw [← e]
  exact solve_no n A cap _ w (FactsAt.of_own h) (by rw [e]; unfold maxLen; omega) hr

theorem lit_refusal (n : Int) (g : F) (w : World) : Calls Try.prog 60 #[.int .i64 n, .slice (some ⟨w.heap.size + 1, 0, none⟩) 1 1] ((w.alloc (.cells #[.int .i64 g.x, .int .i64 g.y, .int .i64 g.c] 45)).alloc (.cells #[.int .i64 g.x, .int .i64 g.y, .int .i64 g.c] 45)) fun e w' =>
    e = .returned (.int .i64 (refuseB n [g])) ∧ Below (w.heap.size + 1 + 1) ((w.alloc (.cells #[.int .i64 g.x, .int .i64 g.y, .int .i64 g.c] 45)).alloc (.cells #[.int .i64 g.x, .int .i64 g.y, .int .i64 g.c] 45)) w' := by
  have hr := refusal_any n (some ⟨w.heap.size + 1, 0, none⟩) 1 [g] ((w.alloc (.cells #[.int .i64 g.x, .int .i64 g.y, .int .i64 g.c] 45)).alloc (.cells #[.int .i64 g.x, .int .i64 g.y, .int .i64 g.c] 45))
    ((FactsAt.lit (w.alloc (.cells #[.int .i64 g.x, .int .i64 g.y, .int .i64 g.c] 45)) g 45 (w.heap.size + 1) (by simp)).more (by simp)) (by unfold maxLen; simp)
  rw [List.length_singleton] at hr
  refine hr.mono ?_
  rintro e w1 ⟨rfl, hb⟩
  refine ⟨rfl, ?_⟩
  simpa using hb

set_option maxHeartbeats 4000000 in
theorem entails_no (n : Int) (g : F) (A : Option Addr) (cap : Nat) (fs : List F) (w : World) (hfs : FactsAt w w.heap.size A fs) (hcap : fs.length ≤ cap) (hcm : cap ≤ maxLen) (hno : entB n g fs ≠ 0) :
    Calls Try.prog 44 #[.int .i64 n, .agg #[.int .i64 g.x, .int .i64 g.y, .int .i64 g.c], .slice A fs.length cap] w fun e w' => e = .returned (.tuple #[.bool false, .int .i64 (entB n g fs)]) ∧ Below w.heap.size w w' := by
  have HF := Lib.hid hfs
  clear hfs
  by_cases hmany : 768 ≤ fs.length
  · rw [entB_many hmany]
    have h1 : (768 : Int) ≤ (fs.length : Int) := by omega
    clear hno
    go_enter Try.func44, Try.ntmps44
    go_wp2
    go_ret2
    exact ⟨rfl, (Below.refl _ _).alloc (Nat.le_refl _) _⟩
  · have h1 : ¬ (768 : Int) ≤ (fs.length : Int) := by omega
    have hlen : fs.length < 768 := by omega
    by_cases hgo : refuseB n [g] = 0
    · obtain ⟨m, rfl, hfm⟩ := refuse_ok hgo
      have hg := hfm.fit g (by simp)
      by_cases hmax : g.c = 8796093022208
      · rw [entB_max hlen hmax]
        have t1 : (g.c == 8796093022208) = true := by simpa using hmax
        have HGO := Lib.hid hgo
        clear hno hmax hgo hg
        go_enter Try.func44, Try.ntmps44
        go_wp2_with fail
        refine (lit_refusal _ g w).mono ?_
        rw [HGO.out]
        rintro e w1 ⟨rfl, hb⟩
        have hgb : Blk w1 w.heap.size [.int .i64 g.x, .int .i64 g.y, .int .i64 g.c] 45 := ((Blk.new w [.int .i64 g.x, .int .i64 g.y, .int .i64 g.c] 45).alloc _).below hb (by omega)
        have g2 := hgb.cell 2
        simp only [List.getElem?_cons_zero, List.getElem?_cons_succ] at g2
        have HB1 := Lib.hid ((((Below.refl w.heap.size w).alloc (Nat.le_refl _) _).alloc (by simp) _).trans (hb.mono (by omega)))
        clear hb hgb
        go_wp2
        go_ret2
        exact ⟨rfl, HB1.out⟩
      · rw [entB_turn hg hmax] at hno ⊢
        have t1 : (g.c == 8796093022208) = false := by simpa using hmax
        generalize hcd : refuseB m (fs ++ [turnF g]) = cd at *
        have HCD := Lib.hid hcd
        have HNO := Lib.hid hno
        have HG := Lib.hid hg
        have HGO := Lib.hid hgo
        clear hno hmax hgo hg hcd
        go_enter Try.func44, Try.ntmps44
        go_wp2_with fail
        refine (lit_refusal _ g w).mono ?_
        rw [HGO.out]
        rintro e w1 ⟨rfl, hb⟩
        have hgb : Blk w1 w.heap.size [.int .i64 g.x, .int .i64 g.y, .int .i64 g.c] 45 := ((Blk.new w [.int .i64 g.x, .int .i64 g.y, .int .i64 g.c] 45).alloc _).below hb (by omega)
        have g0 := hgb.cell 0
        have g1 := hgb.cell 1
        have g2 := hgb.cell 2
        simp only [List.getElem?_cons_zero, List.getElem?_cons_succ] at g0 g1 g2
        have HB1 := Lib.hid ((((Below.refl w.heap.size w).alloc (Nat.le_refl _) _).alloc (by simp) _).trans (hb.mono (by omega)))
        have hw1 : w.heap.size < w1.heap.size := hgb.lt
        clear hb hgb
        go_wp2_with fail
        obtain ⟨i0, hi, hz0, hz1, hz2⟩ := info_parts Try.infoLeq
        go_region_law (first
          | (go_simp; go_at_call 61; refine (clip_any A fs.length cap _ hcap hcm).mono ?_; rintro e w' ⟨rfl, rfl⟩)
          | (go_simp; go_at_call 62; refine (turned_any g _ HG.out.c0 HG.out.c1).mono ?_; rintro e w2 ⟨rfl, hb2⟩; have HB2 := Lib.hid (HB1.out.trans ((Below.refl _ _).drew.trans (hb2.mono (Nat.le_of_lt hw1)))); have hw2 : w.heap.size ≤ w2.heap.size := HB2.out.size; clear hb2)
          | (refine step_append_grows rfl (.tmp 27) (.tmp 30) 23 rfl 45 i0 _ 3 24 Try.underlying23 hi hz0 hz1 hz2 rfl (by decide) A fs.length fs.length (factCells fs) rfl (none_of HF.out) (factCells_len fs) ((HF.out.below (HB2.out.alloc hw2 _) (Nat.le_refl _)).cells) ⟨w2.heap.size, 0, none⟩ 1 1 (fCells (turnF g)) rfl rfl (lit_cells w2 (turnF g) _) (one_cells _) (Nat.lt_succ_self _) (by unfold maxLen; omega) (by omega) ?_; intro v' w3 hown hgrow; obtain ⟨A', cap', rfl, _, _⟩ := own_slice hown; have HO := Lib.hid hown; have HB3 := Lib.hid ((HB2.out.alloc hw2 _).grown hgrow (by simp; omega) (fun _ h => by cases h)); clear hown hgrow)
          | (go_simp; go_at_call 50; refine (solve_snoc_no _ A' cap' fs (turnF g) _ HO.out hlen (by rw [HCD.out]; exact HNO.out)).mono ?_; rw [HCD.out]; rintro e w4 ⟨rfl, hb4⟩; have HB4 := Lib.hid (HB3.out.trans (hb4.mono HB3.out.size)); clear hb4))
        all_goals
          go_wp2
          go_ret2
          exact ⟨rfl, HB4.out⟩
    · rw [entB_goal hlen hgo]
      generalize hcd : refuseB n [g] = cd at *
      have HCD := Lib.hid hcd
      have t1 : (cd != 0) = true := by simpa using hgo
      clear hno hgo hcd
      go_enter Try.func44, Try.ntmps44
      go_wp2_with fail
      refine (lit_refusal _ g w).mono ?_
      rw [HCD.out]
      rintro e w1 ⟨rfl, hb⟩
      have HB1 := Lib.hid ((((Below.refl w.heap.size w).alloc (Nat.le_refl _) _).alloc (by simp) _).trans (hb.mono (by omega)))
      clear hb
      go_wp2
      go_ret2
      exact ⟨rfl, HB1.out⟩

/- Both in one form. -/
def EntOne (n : Int) (g : F) (fs : List F) (w : World) (e : Ending) (w' : World) : Prop :=
  ∃ b, e = .returned (.tuple #[.bool b, .int .i64 (entB n g fs)]) ∧ (b = true → entB n g fs = 0) ∧ (entB n g fs = 0 → (b = true ↔ Ent fs g)) ∧ Below w.heap.size w w'

theorem entails_any (n : Int) (g : F) (A : Option Addr) (cap : Nat) (fs : List F) (w : World) (hfs : FactsAt w w.heap.size A fs) (hcap : fs.length ≤ cap) (hcm : cap ≤ maxLen) :
    Calls Try.prog 44 #[.int .i64 n, .agg #[.int .i64 g.x, .int .i64 g.y, .int .i64 g.c], .slice A fs.length cap] w (EntOne n g fs w) := by
  by_cases h : entB n g fs = 0
  · obtain ⟨m, rfl, hg, hc, hf, _⟩ := entB_ok h
    refine (entails_ok m g A cap fs w hfs hcap hcm hg hc hf).mono ?_
    rintro e w' ⟨b, rfl, hb, hbl⟩
    exact ⟨b, by rw [h], fun _ => h, fun _ => hb, hbl⟩
  · refine (entails_no n g A cap fs w hfs hcap hcm h).mono ?_
    rintro e w' ⟨rfl, hbl⟩
    exact ⟨false, rfl, (fun h0 => by cases h0), fun h0 => absurd h0 h, hbl⟩

/- Solve, both in one form. -/
def SolveAll (n : Int) (fs : List F) (w : World) (e : Ending) (w' : World) : Prop :=
  ∃ A1 n1 c1 A2 n2 c2, e = .returned (.tuple #[.slice A1 n1 c1, .slice A2 n2 c2, .int .i64 (refuseB n fs)]) ∧ (refuseB n fs ≠ 0 → n1 = 0 ∧ n2 = 0) ∧ (refuseB n fs = 0 → SolveAns n.toNat fs w.heap.size w' A1 n1 A2 n2 c2) ∧ Below w.heap.size w w'

theorem solve_any (n : Int) (A : Option Addr) (cap : Nat) (fs : List F) (w : World) (hfs : FactsAt w w.heap.size A fs) (hl : fs.length ≤ maxLen) :
    Calls Try.prog 50 #[.int .i64 n, .slice A fs.length cap] w (SolveAll n fs w) := by
  by_cases h : refuseB n fs = 0
  · obtain ⟨m, rfl, hm⟩ := refuse_ok h
    refine (solve_one m A cap fs w hfs hm).mono ?_
    rintro e w' ⟨A1, n1, c1, A2, n2, c2, rfl, ha, hb⟩
    exact ⟨A1, n1, c1, A2, n2, c2, by rw [h], fun h0 => absurd h h0, fun _ => by simpa using ha, hb⟩
  · refine (solve_no n A cap fs w hfs hl h).mono ?_
    rintro e w' ⟨rfl, hb⟩
    exact ⟨_, _, _, _, _, _, rfl, fun _ => ⟨rfl, rfl⟩, fun h0 => absurd h0 h, hb⟩

end Go.Proofs.Ytejnjaikalckiaa
