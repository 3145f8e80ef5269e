/- The document's own memory of layer 6 as it lies in memory (RefIs), and the contract of lychgateref06.live. -/
import Derived.Test.YtnjndggdnmboeaaMLook2
namespace Go.Proofs.Ytnjndggdnmboeaa
open Go.RowKit

def rCells (e : RC) : List Value := [.int .i64 (e.block : Int), .int .i64 (e.number : Int), .int .i64 e.c.v.kind, .int .i64 e.c.v.n, .int .i64 e.c.v.block, .int .i64 e.c.r, .bool e.c.w]
def rRow : List RC → List Value
  | [] => []
  | e :: l => rCells e ++ rRow l
theorem rRow_len (l : List RC) : (rRow l).length = l.length * 7 := by
  induction l with
  | nil => rfl
  | cons c l ih => simp only [rRow, List.length_append, ih, List.length_cons]; show 7 + _ = _; omega
theorem rRow_append (l m : List RC) : rRow (l ++ m) = rRow l ++ rRow m := by
  induction l with
  | nil => rfl
  | cons c l ih => simp only [List.cons_append, rRow, ih, List.append_assoc]
theorem rRow_get {l : List RC} {j : Nat} {e : RC} (h : l[j]? = some e) (i : Nat) (hi : i < 7) : (rRow l)[j * 7 + i]? = (rCells e)[i]? := by
  induction l generalizing j with
  | nil => simp at h
  | cons d l ih =>
    cases j with
    | zero =>
      simp only [List.getElem?_cons_zero, Option.some.injEq] at h
      subst h
      simp only [rRow, Nat.zero_mul, Nat.zero_add]
      rw [List.getElem?_append_left (by show i < 7; exact hi)]
    | succ j =>
      simp only [rRow]
      rw [List.getElem?_append_right (by show 7 ≤ _; omega)]
      rw [show (j + 1) * 7 + i - (rCells d).length = j * 7 + i by show _ - 7 = _; omega]
      exact ih (by simpa using h)
theorem rRow_set {l : List RC} {j : Nat} {e : RC} (h : l[j]? = some e) (i : Nat) (hi : i < 7) (u : Value) (e' : RC) (hc : (rCells e).set i u = rCells e') : (rRow l).set (j * 7 + i) u = rRow (l.set j e') := by
  induction l generalizing j with
  | nil => simp at h
  | cons d l ih =>
    cases j with
    | zero =>
      simp only [List.getElem?_cons_zero, Option.some.injEq] at h
      subst h
      simp only [rRow, Nat.zero_mul, Nat.zero_add, List.set_cons_zero]
      rw [List.set_append_left _ _ (by show i < 7; exact hi), hc]
    | succ j =>
      simp only [rRow, List.set_cons_succ]
      rw [List.set_append_right _ _ (by show 7 ≤ _; omega)]
      rw [show (j + 1) * 7 + i - (rCells d).length = j * 7 + i by show _ - 7 = _; omega, ih (by simpa using h)]

def lRow (s : MS) : List Value := s.map fun b => .bool b.live
def zRowS (s : MS) : List Value := s.map fun b => .int .i64 (b.cells.length : Int)

/- The document's own memory at the block b. -/
structure RefIs (w : World) (b : Nat) (vl vs vc : Value) (s : MS) : Prop where
  blk : Blk w b [vl, vs, vc, .int .i64 (usedS s)] 30
  live : w.ownsRow 0 4 1 vl s.length (lRow s)
  sizes : w.ownsRow 0 2 1 vs s.length (zRowS s)
  cells : w.ownsRow 0 72 7 vc (rcs 0 s).length (rRow (rcs 0 s))
  nl : ∀ g, vl.ownBlock = some g → g ≠ b ∧ vs.ownBlock ≠ some g ∧ vc.ownBlock ≠ some g
  ns : ∀ g, vs.ownBlock = some g → g ≠ b ∧ vl.ownBlock ≠ some g ∧ vc.ownBlock ≠ some g
  nc : ∀ g, vc.ownBlock = some g → g ≠ b ∧ vl.ownBlock ≠ some g ∧ vs.ownBlock ≠ some g
  most : usedS s ≤ 4096

theorem RefIs.same {w w' : World} {b : Nat} {vl vs vc : Value} {s : MS} (h : RefIs w b vl vs vc s) (hb : w'.heap[b]? = w.heap[b]?) (hl : ∀ g, vl.ownBlock = some g → w'.heap[g]? = w.heap[g]?) (hs : ∀ g, vs.ownBlock = some g → w'.heap[g]? = w.heap[g]?) (hc : ∀ g, vc.ownBlock = some g → w'.heap[g]? = w.heap[g]?) : RefIs w' b vl vs vc s :=
  ⟨h.blk.same hb, row_same h.live hl, row_same h.sizes hs, row_same h.cells hc, h.nl, h.ns, h.nc, h.most⟩
theorem RefIs.below {w w' : World} {b : Nat} {vl vs vc : Value} {s : MS} (h : RefIs w b vl vs vc s) (hb : Below w.heap.size w w') : RefIs w' b vl vs vc s :=
  h.same (hb.block _ h.blk.lt) (fun _ hg => hb.block _ (row_lt h.live hg)) (fun _ hg => hb.block _ (row_lt h.sizes hg)) (fun _ hg => hb.block _ (row_lt h.cells hg))

def RefAt (w : World) (b : Nat) (s : MS) (O : Nat → Prop) : Prop := ∃ vl vs vc, RefIs w b vl vs vc s ∧ O b ∧ (∀ g, vl.ownBlock = some g → O g) ∧ (∀ g, vs.ownBlock = some g → O g) ∧ (∀ g, vc.ownBlock = some g → O g)

theorem RefIs.facts {w : World} {b : Nat} {vl vs vc : Value} {s : MS} (h : RefIs w b vl vs vc s) : ∃ Al cl As cs Ac cc, vl = .slice Al s.length cl ∧ vs = .slice As s.length cs ∧ vc = .slice Ac (rcs 0 s).length cc ∧
    w.cell? ⟨b, 0, none⟩ = some (.slice Al s.length cl) ∧ w.cell? ⟨b, 1, none⟩ = some (.slice As s.length cs) ∧ w.cell? ⟨b, 2, none⟩ = some (.slice Ac (rcs 0 s).length cc) ∧ w.cell? ⟨b, 3, none⟩ = some (.int .i64 (usedS s)) ∧
    s.length ≤ cl ∧ cl ≤ maxLen ∧ s.length ≤ cs ∧ cs ≤ maxLen ∧ (rcs 0 s).length ≤ cc ∧ cc ≤ maxLen ∧ s.length ≤ 4096 ∧ (rcs 0 s).length ≤ 4096 ∧ b < w.heap.size := by
  obtain ⟨Al, cl, hl, l1, l2⟩ := row_form h.live
  obtain ⟨As, cs, hs, s1, s2⟩ := row_form h.sizes
  obtain ⟨Ac, cc, hc, c1, c2⟩ := row_form h.cells
  have := usedS_len s
  have := rcs_length 0 s
  have := h.most
  exact ⟨Al, cl, As, cs, Ac, cc, hl, hs, hc, by rw [h.blk.cell 0, hl]; rfl, by rw [h.blk.cell 1, hs]; rfl, by rw [h.blk.cell 2, hc]; rfl, by rw [h.blk.cell 3]; rfl, l1, l2, s1, s2, c1, c2, by omega, by omega, h.blk.lt⟩

theorem RefIs.liveAt {w : World} {b : Nat} {vl vs vc : Value} {s : MS} (h : RefIs w b vl vs vc s) {k : Nat} {a : MB} (ha : s[k]? = some a) : ∃ g cap, vl = .slice (some ⟨g, 0, none⟩) s.length cap ∧ w.cell? ⟨g, k, none⟩ = some (.bool a.live) ∧ g < w.heap.size ∧ ∀ o, w.frozen? ⟨g, o, none⟩ = false := by
  have hk := (List.getElem?_eq_some_iff.1 ha).1
  obtain ⟨g, cap, rfl, _, _⟩ := row_pos h.live (by omega)
  refine ⟨g, cap, rfl, ?_, row_lt h.live rfl, fun o => h.live.frozenAt o⟩
  rw [h.live.cellAt k (by omega)]
  unfold lRow
  rw [List.getElem?_map, ha]
  rfl
theorem RefIs.cellAt {w : World} {b : Nat} {vl vs vc : Value} {s : MS} (h : RefIs w b vl vs vc s) {x : Nat} {e : RC} (he : (rcs 0 s)[x]? = some e) : ∃ g cap, vc = .slice (some ⟨g, 0, none⟩) (rcs 0 s).length cap ∧ g < w.heap.size ∧ (∀ o, w.frozen? ⟨g, o, none⟩ = false) ∧
    ∀ i, i < 7 → w.cell? ⟨g, x * 7 + i, none⟩ = (rCells e)[i]? := by
  have hx := (List.getElem?_eq_some_iff.1 he).1
  obtain ⟨g, cap, rfl, _, _⟩ := row_pos h.cells (by omega)
  exact ⟨g, cap, rfl, row_lt h.cells rfl, fun o => h.cells.frozenAt o, fun i hi => by rw [h.cells.cellAt (x * 7 + i) (by omega), rRow_get he i hi]⟩

set_option maxRecDepth 100000 in
set_option maxHeartbeats 4000000 in
theorem refLive_any {w : World} {b : Nat} {vl vs vc : Value} {s : MS} (h : RefIs w b vl vs vc s) (p : MV) :
    Calls Try.prog 35 #[.pointer (some ⟨b, 0, none⟩), .agg #[.int .i64 p.kind, .int .i64 p.n, .int .i64 p.block]] w fun e w' => e = .returned (.int .i64 (whyB s p)) ∧ Below w.heap.size w w' := by
  obtain ⟨Al, cl, As, cs, Ac, cc, hv, _, _, f0, _, _, _, l1, l2, _, _, _, _, hle, _, hlt⟩ := h.facts
  have HV := Lib.hid hv
  clear hv
  by_cases hk : p.kind = 2
  · have hd0 : (p.kind != 2) = false := by simpa using hk
    by_cases h1 : p.block < 1
    · have hd1 : decide (p.block < 1) = true := by simpa using h1
      have HR := Lib.hid (whyB_low (s := s) hk h1)
      have HK := Lib.hid hk
      clear hk
      go_enter Try.func35, Try.ntmps35
      go_wp2
      go_quiet (fail)
      go_wp2
      go_ret
      exact ⟨by rw [HR.out]; rfl, below_drewN ((Below.refl _ _).alloc (Nat.le_refl _) _) _⟩
    · have hd1 : decide (p.block < 1) = false := by simpa using h1
      by_cases h2 : (s.length : Int) < p.block
      · have hd2 : decide ((s.length : Int) < p.block) = true := by simpa using h2
        have HR := Lib.hid (whyB_high (s := s) hk h2)
        have HK := Lib.hid hk
        clear hk
        go_enter Try.func35, Try.ntmps35
        go_wp2
        go_quiet (fail)
        go_wp2
        go_ret
        exact ⟨by rw [HR.out]; rfl, below_drewN ((Below.refl _ _).alloc (Nat.le_refl _) _) _⟩
      · have hd2 : decide ((s.length : Int) < p.block) = false := by simpa using h2
        obtain ⟨kind, n, block⟩ := p
        simp only at hk h1 h2 hd0 hd1 hd2
        obtain ⟨k, rfl⟩ : ∃ k : Nat, block = (k : Int) + 1 := ⟨(block - 1).toNat, by omega⟩
        have hks : k < s.length := by omega
        have ha : s[k]? = some s[k] := List.getElem?_eq_getElem hks
        obtain ⟨g, cap, hv, c0, hgl, _⟩ := h.liveAt ha
        have e1 : at1 ⟨kind, n, (k : Int) + 1⟩ = k := by simp [at1]
        have e2 : bkOf s ⟨kind, n, (k : Int) + 1⟩ = s[k] := bkOf_get (by rw [e1]; exact ha)
        have ev := HV.out.symm.trans hv
        simp only [Value.slice.injEq, true_and] at ev
        obtain ⟨rfl, rfl⟩ := ev
        have w1 : IntKind.i64.wrap ((k : Int) + 1 - 1) = (k : Int) := by rw [show (k : Int) + 1 - 1 = k by omega]; exact IntWalk.i64_in _ (by omega)
        have w2 : (k : Int) + 1 - 1 = (k : Int) := by omega
        have hi : (k : Int) < (s.length : Int) := by omega
        cases hl : s[k].live
        · have HR := Lib.hid (whyB_dead (s := s) (p := ⟨kind, n, (k : Int) + 1⟩) hk (by rw [e2]; exact hl))
          rw [hl] at c0
          clear e1 e2 hl ha HV hv
          have HK := Lib.hid hk
          clear hk
          go_enter Try.func35, Try.ntmps35
          go_wp2
          go_quiet (fail)
          go_wp2
          go_quiet (fail)
          go_wp2
          go_ret
          exact ⟨by rw [HR.out]; rfl, below_drewN (below_drewN ((Below.refl _ _).alloc (Nat.le_refl _) _) _) _⟩
        · have HR := Lib.hid (whyB_live (s := s) (p := ⟨kind, n, (k : Int) + 1⟩) hk h1 h2 (by rw [e2]; exact hl))
          rw [hl] at c0
          clear e1 e2 hl ha HV hv
          have HK := Lib.hid hk
          clear hk
          go_enter Try.func35, Try.ntmps35
          go_wp2
          go_quiet (fail)
          go_wp2
          go_quiet (fail)
          go_wp2
          go_ret
          exact ⟨by rw [HR.out]; rfl, below_drewN (below_drewN ((Below.refl _ _).alloc (Nat.le_refl _) _) _) _⟩
  · have hd0 : (p.kind != 2) = true := by simpa using hk
    have HR := Lib.hid (whyB_kind (s := s) hk)
    clear hk
    go_enter Try.func35, Try.ntmps35
    go_wp2
    go_ret
    exact ⟨by rw [HR.out]; rfl, (Below.refl _ _).alloc (Nat.le_refl _) _⟩

end Go.Proofs.Ytnjndggdnmboeaa
