/- The contracts of cert.Check and lychgatelaw05.wakes. -/
import Derived.Test.YtooogmppfjgdpaaCCirc2
namespace Go.Proofs.Ytooogmppfjgdpaa
open Go.RowKit

theorem fitB_iff (n : Int) (g : F) (fs : List F) : fitB n g fs = true ↔ entB n g fs = 0 := by
  unfold fitB entB refuseB
  rw [any_snoc]
  simp only [List.length_append, List.length_singleton]
  cases ho : oddB n g
  · cases ha : fs.any (oddB n)
    · by_cases hc : g.c = 8796093022208
      · simp [hc]
        by_cases h1 : 768 < fs.length + 1
        · simp [h1]
        · simp [h1]
          split
          · decide
          · rw [if_pos (by omega)]; decide
      · simp [hc]
        by_cases h1 : 768 < fs.length + 1
        · simp [h1]; omega
        · simp [h1]; omega
    · simp
      by_cases h1 : 768 < fs.length + 1
      · simp [h1]
      · simp [h1]
  · simp
    by_cases h1 : 768 < fs.length + 1
    · simp [h1]
    · simp [h1]

structure Pf where
  yes : Bool
  cyc : List Int
  nums : List Int

def CheckP (p : Pf) (n : Int) (g : F) (fs : List F) : Prop :=
  fitB n g fs = true ∧ ((p.yes = true ∧ p.nums.length = 0 ∧ CircP p.cyc (fs ++ [turnF g])) ∨ (p.yes = false ∧ p.cyc.length = 0 ∧ (p.nums.length : Int) = n ∧ holdsB p.nums (fs ++ [turnF g]) = true))

/- A proof in memory. -/
structure PfAt (w : World) (AC AN : Option Addr) (p : Pf) : Prop where
  cyc : NumsAt w w.heap.size AC p.cyc
  nums : NumsAt w w.heap.size AN p.nums
  cl : p.cyc.length ≤ 1099511627776
  nl : p.nums.length ≤ maxLen

theorem PfAt.below {w w' : World} {AC AN : Option Addr} {p : Pf} (h : PfAt w AC AN p) (hb : Below w.heap.size w w') : PfAt w' AC AN p :=
  ⟨(h.cyc.below hb (Nat.le_refl _)).more hb.size, (h.nums.below hb (Nat.le_refl _)).more hb.size, h.cl, h.nl⟩

def CheckPost (p : Pf) (n : Int) (g : F) (fs : List F) (w : World) (e : Ending) (w' : World) : Prop := ∃ r, e = .returned (.bool r) ∧ (r = true ↔ CheckP p n g fs) ∧ Below w.heap.size w w'

def pfV (p : Pf) (AC : Option Addr) (cC : Nat) (AN : Option Addr) (cN : Nat) : Value := .agg #[.bool p.yes, .slice AC p.cyc.length cC, .slice AN p.nums.length cN]

theorem isCircle_own (fs : List F) (A : Option Addr) (cap k : Nat) (l : List Int) (AF : Option Addr) (capF : Nat) (w : World) {base : Nat} {t : TypeId} (hk : k = fs.length) (hown : w.ownsRow base t 3 (.slice AF k capF) k (factCells fs)) (hls : NumsAt w w.heap.size A l) (hl : l.length ≤ 1099511627776) :
    Calls Try.prog 19 #[.slice A l.length cap, .slice AF k capF] w (CircPost l fs w) := by
  subst hk
  obtain ⟨A', cap', hv, h1, h2⟩ := own_slice hown
  cases hv
  exact isCircle_any AF capF fs A cap l w (FactsAt.of_own hown) (Nat.le_trans h1 h2) hls hl
theorem holds_own (fs : List F) (A : Option Addr) (cap k : Nat) (zs : List Int) (AF : Option Addr) (capF : Nat) (w : World) {base : Nat} {t : TypeId} (hk : k = fs.length) (hown : w.ownsRow base t 3 (.slice AF k capF) k (factCells fs)) (hzs : NumsAt w w.heap.size A zs) (hl : zs.length ≤ maxLen) :
    Calls Try.prog 13 #[.slice A zs.length cap, .slice AF k capF] w fun e w' => e = .returned (.bool (holdsB zs fs)) ∧ Below w.heap.size w w' := by
  subst hk
  obtain ⟨A', cap', hv, h1, h2⟩ := own_slice hown
  cases hv
  exact holds_any zs A cap AF capF fs w hzs hl (FactsAt.of_own hown) (Nat.le_trans h1 h2)

set_option maxHeartbeats 4000000 in
theorem check_any (p : Pf) (AC : Option Addr) (cC : Nat) (AN : Option Addr) (cN : Nat) (n : Int) (g : F) (AF : Option Addr) (capF : Nat) (fs : List F) (w : World) (hp : PfAt w AC AN p) (hfs : FactsAt w w.heap.size AF fs) (hfl : fs.length ≤ maxLen) :
    Calls Try.prog 17 #[.agg #[.bool p.yes, .slice AC p.cyc.length cC, .slice AN p.nums.length cN], .int .i64 n, .agg #[.int .i64 g.x, .int .i64 g.y, .int .i64 g.c], .slice AF fs.length capF] w (CheckPost p n g fs w) := by
  obtain ⟨yes, cyc, nums⟩ := p
  have HP := Lib.hid hp
  have HF := Lib.hid hfs
  have hcl : cyc.length ≤ 1099511627776 := hp.cl
  have hnl : nums.length ≤ 2 ^ 63 - 1 := hp.nl
  clear hp hfs
  have HD := Lib.hid (show CheckP ⟨yes, cyc, nums⟩ n g fs ↔ fitB n g fs = true ∧ ((yes = true ∧ nums.length = 0 ∧ CircP cyc (fs ++ [turnF g])) ∨ (yes = false ∧ cyc.length = 0 ∧ (nums.length : Int) = n ∧ holdsB nums (fs ++ [turnF g]) = true)) from Iff.rfl)
  have HB0 := Lib.hid (((Below.refl w.heap.size w).alloc (Nat.le_refl _) (.cells #[.bool yes, .slice AC cyc.length cC, .slice AN nums.length cN] 37)).alloc (by simp) (.cells #[.int .i64 g.x, .int .i64 g.y, .int .i64 g.c] 35))
  have b0 : Blk ((w.alloc (.cells [.bool yes, .slice AC cyc.length cC, .slice AN nums.length cN].toArray 37)).alloc (.cells #[.int .i64 g.x, .int .i64 g.y, .int .i64 g.c] 35)) w.heap.size [.bool yes, .slice AC cyc.length cC, .slice AN nums.length cN] 37 := (Blk.new w _ _).alloc _
  have b1 := Blk.new (w.alloc (.cells #[.bool yes, .slice AC cyc.length cC, .slice AN nums.length cN] 37)) [.int .i64 g.x, .int .i64 g.y, .int .i64 g.c] 35
  simp only [World.size_alloc] at b1
  go_enter Try.func17, Try.ntmps17
  go_wp2_with fail
  refine (fit_cert n g AF capF fs _ ((HF.out.below HB0.out (Nat.le_refl _)).more HB0.out.size) hfl).mono ?_
  rintro e w1 ⟨rfl, hb1⟩
  have HB1 := Lib.hid (HB0.out.trans (hb1.mono HB0.out.size))
  have HK0 := Lib.hid (b0.below hb1 (by simp; omega))
  have HK1 := Lib.hid (b1.below hb1 (by simp))
  clear hb1 b0 b1
  cases hfit : fitB n g fs
  · have HN : Hid (¬ CheckP ⟨yes, cyc, nums⟩ n g fs) := Lib.hid fun h => by rw [h.1] at hfit; cases hfit
    go_wp2
    go_ret
    exact ⟨false, rfl, ⟨fun h => (by cases h), fun h => absurd h HN.out⟩, HB1.out⟩
  · obtain ⟨m, rfl, hg, hgc, hfs2, hfs3⟩ := entB_ok ((fitB_iff n g fs).1 hfit)
    have hlen : fs.length ≤ 768 := by have := hfs3.len; simp at this; omega
    have g0 := HK1.out.cell 0
    have g1 := HK1.out.cell 1
    have g2 := HK1.out.cell 2
    simp only [List.getElem?_cons_zero, List.getElem?_cons_succ] at g0 g1 g2
    obtain ⟨us, HUS⟩ : ∃ us, Hid (fs ++ [turnF g] = us) := ⟨_, Lib.hid rfl⟩
    have HD2 : Hid (CheckP ⟨yes, cyc, nums⟩ m g fs ↔ ((yes = true ∧ nums.length = 0 ∧ CircP cyc us) ∨ (yes = false ∧ cyc.length = 0 ∧ (nums.length : Int) = m ∧ holdsB nums us = true))) := Lib.hid (by rw [HD.out, hfit, HUS.out]; simp)
    have HW := withTurned_any g AF capF fs w1 ((HF.out.below HB1.out (Nat.le_refl _)).more HB1.out.size) (by omega) hg.c0 hg.c1
    rw [HUS.out] at HW
    have HWT := Lib.hid HW
    clear HW HD hfit hfs2 hfs3 hg
    go_wp2_with fail
    refine HWT.out.mono ?_
    rintro e w2 ⟨AU, cU, rfl, hown, hb2⟩
    have HB2 := Lib.hid (HB1.out.trans (hb2.mono HB1.out.size))
    have HO := Lib.hid hown
    have HK2 := Lib.hid (HK0.out.below hb2 HK0.out.lt)
    have p0 := HK2.out.cell 0
    have p1 := HK2.out.cell 1
    have p2 := HK2.out.cell 2
    simp only [List.getElem?_cons_zero, List.getElem?_cons_succ] at p0 p1 p2
    have HPB := Lib.hid (HP.out.below HB2.out)
    clear hown hb2 g0 g1 g2
    cases yes
    · by_cases h0 : cyc.length = 0
      · have t0 : (cyc.length : Int) = 0 := by omega
        by_cases h1 : (nums.length : Int) = m
        · have t1 : ((nums.length : Int) == (m : Int)) = true := by simpa using h1
          go_wp2_with fail
          refine (holds_own us AN cN _ nums AU cU w2 rfl HO.out HPB.out.nums HPB.out.nl).mono ?_
          rintro e w3 ⟨rfl, hb3⟩
          have HB3 := Lib.hid (HB2.out.trans (hb3.mono HB2.out.size))
          clear hb3
          go_wp2
          go_ret
          exact ⟨_, rfl, by rw [HD2.out]; exact ⟨fun h => .inr ⟨by first | rfl | trivial, h0, h1, h⟩, fun h => by rcases h with ⟨h, _⟩ | ⟨_, _, _, h⟩; cases h; exact h⟩, HB3.out⟩
        · have t1 : ((nums.length : Int) == (m : Int)) = false := beq_eq_false_iff_ne.2 h1
          have HN : Hid (¬ CheckP ⟨false, cyc, nums⟩ m g fs) := Lib.hid (by rw [HD2.out]; rintro (⟨h, _⟩ | ⟨_, _, h, _⟩); cases h; exact h1 h)
          go_wp2
          go_ret
          exact ⟨false, rfl, ⟨fun h => (by cases h), fun h => absurd h HN.out⟩, HB2.out⟩
      · have t0 : (cyc.length : Int) ≠ 0 := by omega
        have t1 : ((cyc.length : Int) == 0) = false := beq_eq_false_iff_ne.2 t0
        have HN : Hid (¬ CheckP ⟨false, cyc, nums⟩ m g fs) := Lib.hid (by rw [HD2.out]; rintro (⟨h, _⟩ | ⟨_, h, _, _⟩); cases h; exact h0 h)
        go_wp2
        go_ret
        exact ⟨false, rfl, ⟨fun h => (by cases h), fun h => absurd h HN.out⟩, HB2.out⟩
    · by_cases h0 : nums.length = 0
      · have t0 : (nums.length : Int) = 0 := by omega
        go_wp2_with fail
        refine (isCircle_own us AC cC _ cyc AU cU w2 rfl HO.out HPB.out.cyc hcl).mono ?_
        rintro e w3 ⟨r, rfl, hr, hb3⟩
        have HB3 := Lib.hid (HB2.out.trans (hb3.mono HB2.out.size))
        have HR := Lib.hid hr
        clear hb3 hr
        go_wp2
        go_ret
        exact ⟨_, rfl, by rw [HD2.out]; exact ⟨fun h => .inl ⟨by first | rfl | trivial, h0, HR.out.1 h⟩, fun h => by rcases h with ⟨_, _, h⟩ | ⟨h, _⟩; exact HR.out.2 h; cases h⟩, HB3.out⟩
      · have t0 : (nums.length : Int) ≠ 0 := by omega
        have t1 : ((nums.length : Int) == 0) = false := beq_eq_false_iff_ne.2 t0
        have HN : Hid (¬ CheckP ⟨true, cyc, nums⟩ m g fs) := Lib.hid (by rw [HD2.out]; rintro (⟨_, h, _⟩ | ⟨h, _⟩); exact h0 h; cases h)
        go_wp2
        go_ret
        exact ⟨false, rfl, ⟨fun h => (by cases h), fun h => absurd h HN.out⟩, HB2.out⟩

/- The wakes. -/
theorem NumsAt.lit3 (w : World) (a b c : Int) (e : TypeId) (g : Nat) (hg : g = w.heap.size) : NumsAt (w.alloc (.cells #[.int .i64 a, .int .i64 b, .int .i64 c] e)) (w.heap.size + 1) (some ⟨g, 0, none⟩) [a, b, c] := by
  subst hg
  intro _
  refine ⟨_, 0, rfl, by omega, fun i hi => ?_⟩
  have hb : Blk (w.alloc (.cells [Value.int .i64 a, .int .i64 b, .int .i64 c].toArray e)) w.heap.size [.int .i64 a, .int .i64 b, .int .i64 c] e := Blk.new w _ _
  match i, hi with
  | 0, _ => exact hb.cell 0
  | 1, _ => exact hb.cell 1
  | 2, _ => exact hb.cell 2
theorem NumsAt.nil (w : World) (B : Nat) (A : Option Addr) : NumsAt w B A [] := fun h => absurd h (by simp)

theorem FactsAt.lit2 (w : World) (f g : F) (e : TypeId) (b : Nat) (hb : b = w.heap.size) : FactsAt (w.alloc (.cells #[.int .i64 f.x, .int .i64 f.y, .int .i64 f.c, .int .i64 g.x, .int .i64 g.y, .int .i64 g.c] e)) (w.heap.size + 1) (some ⟨b, 0, none⟩) [f, g] := by
  subst hb
  intro _
  refine ⟨_, 0, rfl, by omega, fun i f' hf => ?_⟩
  have hb : Blk (w.alloc (.cells [Value.int .i64 f.x, .int .i64 f.y, .int .i64 f.c, .int .i64 g.x, .int .i64 g.y, .int .i64 g.c].toArray e)) w.heap.size [.int .i64 f.x, .int .i64 f.y, .int .i64 f.c, .int .i64 g.x, .int .i64 g.y, .int .i64 g.c] e := Blk.new w _ _
  match i, hf with
  | 0, hf =>
    cases hf
    exact ⟨hb.cell 0, hb.cell 1, hb.cell 2⟩
  | 1, hf =>
    cases hf
    exact ⟨hb.cell 3, hb.cell 4, hb.cell 5⟩

def wf1 : F := ⟨0, 1, 2⟩
def wf2 : F := ⟨1, 2, 3⟩
theorem wake1 : CheckP ⟨true, [0, 1, 2], []⟩ 3 ⟨0, 2, 5⟩ [wf1, wf2] := by
  refine ⟨by decide, .inl ⟨rfl, rfl, [0, 1, 2], rfl, ⟨by decide, ?_, ?_, by decide⟩, ⟨?_, ?_, ?_⟩⟩⟩
  all_goals
    intro i hi
    match i, hi with
    | 0, _ => decide
    | 1, _ => decide
    | 2, _ => decide
theorem wake2 : CheckP ⟨false, [], [5, 3, 0]⟩ 3 ⟨0, 2, 4⟩ [wf1, wf2] := ⟨by decide, .inr ⟨rfl, rfl, rfl, by decide⟩⟩
theorem wake3 : ¬ CheckP ⟨true, [0, 1, 2], []⟩ 3 ⟨0, 2, 4⟩ [wf1, wf2] := by
  rintro ⟨_, ⟨_, _, k, e, hc, _⟩ | ⟨h, _⟩⟩
  · have hk : k = [0, 1, 2] := natInts_inj (show natInts k = natInts [0, 1, 2] from e.symm)
    subst hk
    exact absurd hc.neg (by decide)
  · cases h

theorem wake_yes (r : Bool) (a b c q : Int) (W : World) (g0 k : Nat) (hk : k = W.heap.size) (hf : FactsAt W W.heap.size (some ⟨g0, 0, none⟩) [wf1, wf2]) (hr : r = true ↔ CheckP ⟨true, [a, b, c], []⟩ 3 ⟨0, 2, q⟩ [wf1, wf2]) :
    Calls Try.prog 17 #[.agg #[.bool true, .slice (some ⟨k, 0, none⟩) 3 3, .slice none 0 0], .int .i64 3, .agg #[.int .i64 0, .int .i64 2, .int .i64 q], .slice (some ⟨g0, 0, none⟩) 2 2]
      (W.alloc (.cells #[.int .i64 a, .int .i64 b, .int .i64 c] 3)) fun e w' => e = .returned (.bool r) ∧ Below W.heap.size W w' := by
  have hb := (Below.refl W.heap.size W).alloc (Nat.le_refl _) (.cells #[.int .i64 a, .int .i64 b, .int .i64 c] 3)
  have h := check_any ⟨true, [a, b, c], []⟩ (some ⟨k, 0, none⟩) 3 none 0 3 ⟨0, 2, q⟩ (some ⟨g0, 0, none⟩) 2 [wf1, wf2] (W.alloc (.cells #[.int .i64 a, .int .i64 b, .int .i64 c] 3)) ⟨(NumsAt.lit3 W a b c _ k hk).more (by simp), NumsAt.nil _ _ _, (by show 3 ≤ 1099511627776; omega), Nat.zero_le _⟩ ((hf.below hb (Nat.le_refl _)).more hb.size) (by unfold maxLen; show 2 ≤ 2 ^ 63 - 1; omega)
  refine Calls.mono (show Calls Try.prog 17 #[.agg #[.bool true, .slice (some ⟨k, 0, none⟩) 3 3, .slice none 0 0], .int .i64 3, .agg #[.int .i64 0, .int .i64 2, .int .i64 q], .slice (some ⟨g0, 0, none⟩) 2 2] _ _ from h) ?_
  rintro e w' ⟨r', rfl, h', hbl⟩
  rw [show r' = r by cases r <;> cases r' <;> simp_all]
  exact ⟨rfl, hb.trans (hbl.mono hb.size)⟩
theorem wake_nums (a b c q : Int) (W : World) (g0 k : Nat) (hk : k = W.heap.size) (hf : FactsAt W W.heap.size (some ⟨g0, 0, none⟩) [wf1, wf2]) (hr : CheckP ⟨false, [], [a, b, c]⟩ 3 ⟨0, 2, q⟩ [wf1, wf2]) :
    Calls Try.prog 17 #[.agg #[.bool false, .slice none 0 0, .slice (some ⟨k, 0, none⟩) 3 3], .int .i64 3, .agg #[.int .i64 0, .int .i64 2, .int .i64 q], .slice (some ⟨g0, 0, none⟩) 2 2]
      (W.alloc (.cells #[.int .i64 a, .int .i64 b, .int .i64 c] 2)) fun e w' => e = .returned (.bool true) ∧ Below W.heap.size W w' := by
  have hb := (Below.refl W.heap.size W).alloc (Nat.le_refl _) (.cells #[.int .i64 a, .int .i64 b, .int .i64 c] 2)
  have h := check_any ⟨false, [], [a, b, c]⟩ none 0 (some ⟨k, 0, none⟩) 3 3 ⟨0, 2, q⟩ (some ⟨g0, 0, none⟩) 2 [wf1, wf2] (W.alloc (.cells #[.int .i64 a, .int .i64 b, .int .i64 c] 2)) ⟨NumsAt.nil _ _ _, (NumsAt.lit3 W a b c _ k hk).more (by simp), Nat.zero_le _, (by unfold maxLen; show 3 ≤ 2 ^ 63 - 1; omega)⟩ ((hf.below hb (Nat.le_refl _)).more hb.size) (by unfold maxLen; show 2 ≤ 2 ^ 63 - 1; omega)
  refine Calls.mono (show Calls Try.prog 17 #[.agg #[.bool false, .slice none 0 0, .slice (some ⟨k, 0, none⟩) 3 3], .int .i64 3, .agg #[.int .i64 0, .int .i64 2, .int .i64 q], .slice (some ⟨g0, 0, none⟩) 2 2] _ _ from h) ?_
  rintro e w' ⟨r', rfl, h', hbl⟩
  rw [h'.2 hr]
  exact ⟨rfl, hb.trans (hbl.mono hb.size)⟩

set_option maxHeartbeats 2000000 in
theorem wakes_any (w : World) : Calls Try.prog 9 #[] w fun e w' => e = .returned (.bool true) ∧ Below w.heap.size w w' := by
  have HF0 := Lib.hid (FactsAt.lit2 w wf1 wf2 35 _ rfl)
  have HB0 := Lib.hid ((Below.refl w.heap.size w).alloc (Nat.le_refl _) (.cells #[.int .i64 0, .int .i64 1, .int .i64 2, .int .i64 1, .int .i64 2, .int .i64 3] 35))
  go_enter Try.func9, Try.ntmps9
  go_wp2_with fail
  refine (wake_yes true 0 1 2 5 _ w.heap.size _ (by simp) (HF0.out.more (by simp)) ⟨fun _ => wake1, fun _ => rfl⟩).mono ?_
  rintro e w1 ⟨rfl, hb1⟩
  have HF1 := Lib.hid (HF0.out.below hb1 (by simp))
  have HB1 := Lib.hid (HB0.out.trans (hb1.mono (by simp)))
  have hw1 : w.heap.size + 1 ≤ w1.heap.size := by have := hb1.size; simpa using this
  clear hb1
  go_wp2_with fail
  refine (wake_nums 5 3 0 4 _ w.heap.size _ rfl (HF1.out.more hw1) wake2).mono ?_
  rintro e w2 ⟨rfl, hb2⟩
  have HF2 := Lib.hid (HF1.out.below hb2 hw1)
  have HB2 := Lib.hid (HB1.out.trans (hb2.mono HB1.out.size))
  have hw2 : w.heap.size + 1 ≤ w2.heap.size := Nat.le_trans hw1 hb2.size
  clear hb2
  go_wp2_with fail
  refine (wake_yes false 0 1 2 4 _ w.heap.size _ rfl (HF2.out.more hw2) ⟨fun h => (by cases h), fun h => absurd h wake3⟩).mono ?_
  rintro e w3 ⟨rfl, hb3⟩
  have HB3 := Lib.hid (HB2.out.trans (hb3.mono HB2.out.size))
  clear hb3
  go_wp2
  go_ret
  exact ⟨rfl, HB3.out⟩

end Go.Proofs.Ytooogmppfjgdpaa
