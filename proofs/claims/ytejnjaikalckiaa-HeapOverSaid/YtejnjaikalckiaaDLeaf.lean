/- Memory words for layer 4 and the contracts of diff's leaves: the closure that tells an odd fact, slices.IndexFunc, slices.ContainsFunc, refusal, turned, Clip. -/
import Derived.Test.YtejnjaikalckiaaRows
import Derived.Test.YtejnjaikalckiaaDPlain
import Derived.WalkKit
import Derived.WalkSpells
import Derived.Lib.Hide
import Derived.Deep.QuietTactic
import Derived.BigQuiet
import Derived.Handy
import Derived.WalkMore
import Derived.Deep.LoopGhost
namespace Go.Proofs.Ytejnjaikalckiaa
open Go.RowKit

def fCells (f : F) : List Value := [.int .i64 f.x, .int .i64 f.y, .int .i64 f.c]
def fV (f : F) : Value := .agg #[.int .i64 f.x, .int .i64 f.y, .int .i64 f.c]

/- A list of facts in memory, its blocks below B; what lies behind it is asked only where it has facts. -/
def FactsAt (w : World) (B : Nat) (A : Option Addr) (fs : List F) : Prop :=
  0 < fs.length → ∃ b off, A = some ⟨b, off, none⟩ ∧ b < B ∧ ∀ i f, fs[i]? = some f → w.cell? ⟨b, off + i * 3, none⟩ = some (.int .i64 f.x) ∧ w.cell? ⟨b, off + i * 3 + 1, none⟩ = some (.int .i64 f.y) ∧ w.cell? ⟨b, off + i * 3 + 2, none⟩ = some (.int .i64 f.c)

theorem FactsAt.below {w w' : World} {B B' : Nat} {A : Option Addr} {fs : List F} (h : FactsAt w B A fs) (hb : Below B' w w') (hB : B ≤ B') : FactsAt w' B A fs := fun hn => by
  obtain ⟨b, off, e, hlt, hc⟩ := h hn
  refine ⟨b, off, e, hlt, fun i f hf => ?_⟩
  obtain ⟨h0, h1, h2⟩ := hc i f hf
  exact ⟨(hb.cell (p := ⟨b, off + i * 3, none⟩) (by show b < B'; omega)).trans h0, (hb.cell (p := ⟨b, off + i * 3 + 1, none⟩) (by show b < B'; omega)).trans h1, (hb.cell (p := ⟨b, off + i * 3 + 2, none⟩) (by show b < B'; omega)).trans h2⟩

theorem FactsAt.more {w : World} {B B' : Nat} {A : Option Addr} {fs : List F} (h : FactsAt w B A fs) (hB : B ≤ B') : FactsAt w B' A fs := fun hn => by
  obtain ⟨b, off, e, hlt, hc⟩ := h hn
  exact ⟨b, off, e, by omega, hc⟩

theorem ret_bool {a b : Bool} (h : a = b) : Ending.returned (.bool a) = .returned (.bool b) := by rw [h]
theorem ret_int {k : IntKind} {a b : Int} (h : a = b) : Ending.returned (.int k a) = .returned (.int k b) := by rw [h]

set_option maxHeartbeats 1000000 in
theorem odd_any (n : Int) (g : Nat) (f : F) (w : World) (hg : w.cell? ⟨g, 0, none⟩ = some (.int .i64 n)) (hlt : g < w.heap.size) :
    Calls Try.prog 72 #[.agg #[.int .i64 f.x, .int .i64 f.y, .int .i64 f.c], .pointer (some ⟨g, 0, none⟩)] w fun e w' => e = .returned (.bool (oddB n f)) ∧ Below w.heap.size w w' := by
  obtain ⟨x, y, c⟩ := f
  go_enter Try.func72, Try.ntmps72
  go_wp2
  all_goals go_ret
  all_goals refine ⟨ret_bool ?_, (Below.refl _ _).alloc (Nat.le_refl _) _⟩
  all_goals (unfold oddB; first | (simp [*]; done) | (rw [Bool.eq_iff_iff]; simp; omega))

theorem run_enter {P : Program} {f : FuncId} {fn : Func} (hf : P.funcs[f]? = some fn) (hname : (fn.name == "runtime.NumGoroutine") = false) (hb : fn.body.isNone = false) (args : Array Value) (w : World) :
    (callFunc f args).run P w = .ok (.enter f args) w := by
  unfold callFunc
  simp only [Sem.run_bind, run_program, Result.andThen_ok, hf, hname, hb, Bool.false_eq_true, if_false, Sem.run_pure]

theorem index_yes {n : Int} {fs : List F} {k : Nat} {f : F} (hf : fs[k]? = some f) (ho : oddB n f = true) : decide (0 ≤ (k : Int)) = fs.any (oddB n) := by
  have h : fs.any (oddB n) = true := List.any_eq_true.2 ⟨f, List.mem_of_getElem? hf, ho⟩
  rw [h]
  simp
theorem index_no {n : Int} {fs : List F} {k : Nat} (hk : fs.length ≤ k) (ho : (fs.take k).any (oddB n) = false) : decide (0 ≤ (-1 : Int)) = fs.any (oddB n) := by
  rw [List.take_of_length_le hk] at ho
  rw [ho]
  rfl

/- What slices.IndexFunc comes to. -/
def IdxPost (n : Int) (fs : List F) (w : World) (e : Ending) (w' : World) : Prop := ∃ i : Int, e = .returned (.int .i64 i) ∧ (decide (0 ≤ i) = fs.any (oddB n)) ∧ Below w.heap.size w w'

set_option maxHeartbeats 1000000 in
theorem index_any (n : Int) (g : Nat) (A : Option Addr) (cap : Nat) (fs : List F) (w : World) (hg : w.cell? ⟨g, 0, none⟩ = some (.int .i64 n)) (hlt : g < w.heap.size) (hfs : FactsAt w w.heap.size A fs) (hl : fs.length ≤ maxLen) :
    Calls Try.prog 75 #[.slice A fs.length cap, .func (.func 72) #[] #[.pointer (some ⟨g, 0, none⟩)]] w (IdxPost n fs w) := by
  unfold maxLen at hl
  have HF := Lib.hid hfs
  clear hfs
  go_enter Try.func75, Try.ntmps75
  go_wp2
  go_loopw [8] (fun i wr => ∃ k : Nat, k ≤ fs.length ∧ i = .int .i64 k ∧ Below w.heap.size w wr ∧ (fs.take k).any (oddB n) = false) (fun i _ => fs.length - (intOf i).toNat)
  case atStart => exact ⟨0, by omega, rfl, Below.refl _ _, by simp⟩
  case round =>
    obtain ⟨k, hk, rfl, hb, hno⟩ := hrel
    have HB := Lib.hid hb
    have HN := Lib.hid hno
    clear hb hno
    by_cases hlt2 : k < fs.length
    · obtain ⟨b, off, rfl, hbl, hc⟩ := HF.out (by omega)
      obtain ⟨f, hf⟩ : ∃ f, fs[k]? = some f := ⟨_, List.getElem?_eq_getElem hlt2⟩
      obtain ⟨c0, c1, c2⟩ := hc k f hf
      have d0 := (HB.out.cell (p := ⟨b, off + k * 3, none⟩) hbl).trans c0
      have d1 := (HB.out.cell (p := ⟨b, off + k * 3 + 1, none⟩) hbl).trans c1
      have d2 := (HB.out.cell (p := ⟨b, off + k * 3 + 2, none⟩) hbl).trans c2
      clear hc c0 c1 c2
      have HFF := Lib.hid hf
      clear hf
      go_wp2_with fail
      refine (odd_any n g f _ ((HB.out.cell (p := ⟨g, 0, none⟩) hlt).trans hg) (Nat.lt_of_lt_of_le hlt HB.out.size)).mono ?_
      rintro e w1 ⟨rfl, hb1⟩
      have HB1 := Lib.hid (HB.out.trans (hb1.mono HB.out.size))
      clear hb1
      cases ho : oddB n f
      · go_wp2
        go_roundw
        case rel => exact ⟨k + 1, by omega, by go_num, HB1.out, by rw [List.take_add_one, List.any_append, HN.out, HFF.out]; simp [ho]⟩
        case measure => simp [intOf]; omega
      · go_wp2
        go_ret
        exact ⟨k, rfl, index_yes HFF.out ho, HB1.out⟩
    · go_wp2
      go_ret
      exact ⟨-1, rfl, index_no (by omega) HN.out, HB.out⟩

set_option maxHeartbeats 1000000 in
theorem contains_any (n : Int) (g : Nat) (A : Option Addr) (cap : Nat) (fs : List F) (w : World) (hg : w.cell? ⟨g, 0, none⟩ = some (.int .i64 n)) (hlt : g < w.heap.size) (hfs : FactsAt w w.heap.size A fs) (hl : fs.length ≤ maxLen) :
    Calls Try.prog 73 #[.slice A fs.length cap, .func (.func 72) #[] #[.pointer (some ⟨g, 0, none⟩)]] w fun e w' => e = .returned (.bool (fs.any (oddB n))) ∧ Below w.heap.size w w' := by
  go_enter Try.func73, Try.ntmps73
  go_wp2_with fail
  refine (index_any n g A cap fs w hg hlt hfs hl).mono ?_
  rintro e w1 ⟨i, rfl, hi, hb⟩
  have HI := Lib.hid hi
  have HB := Lib.hid hb
  clear hi hb
  go_wp2
  go_ret
  exact ⟨ret_bool HI.out, HB.out⟩

set_option maxHeartbeats 1000000 in
theorem refusal_any (n : Int) (A : Option Addr) (cap : Nat) (fs : List F) (w : World) (hfs : FactsAt w w.heap.size A fs) (hl : fs.length ≤ maxLen) :
    Calls Try.prog 60 #[.int .i64 n, .slice A fs.length cap] w fun e w' => e = .returned (.int .i64 (refuseB n fs)) ∧ Below w.heap.size w w' := by
  have HF := Lib.hid hfs
  clear hfs
  by_cases h1 : 768 < fs.length
  · have HR := Lib.hid (show refuseB n fs = 22 by unfold refuseB; rw [if_pos h1])
    have h1' : (768 : Int) < (fs.length : Int) := by omega
    go_enter Try.func60, Try.ntmps60
    go_wp2
    go_ret
    exact ⟨ret_int HR.out.symm, (Below.refl _ _).alloc (Nat.le_refl _) _⟩
  · have h1' : ¬ (768 : Int) < (fs.length : Int) := by omega
    by_cases h2 : n < 1
    · have HR := Lib.hid (show refuseB n fs = 2 by unfold refuseB; rw [if_neg h1]; simp [h2])
      go_enter Try.func60, Try.ntmps60
      go_wp2
      go_ret
      exact ⟨ret_int HR.out.symm, (Below.refl _ _).alloc (Nat.le_refl _) _⟩
    · by_cases h3 : 96 < n
      · have HR := Lib.hid (show refuseB n fs = 2 by unfold refuseB; rw [if_neg h1]; simp [h3])
        go_enter Try.func60, Try.ntmps60
        go_wp2
        go_ret
        exact ⟨ret_int HR.out.symm, (Below.refl _ _).alloc (Nat.le_refl _) _⟩
      · have hd1 : decide (n < 1) = false := by simpa using h2
        have hd2 : decide (96 < n) = false := by simpa using h3
        have HR := Lib.hid (show refuseB n fs = if fs.any (oddB n) = true then 2 else 0 by unfold refuseB; rw [if_neg h1]; simp [h2, h3])
        go_enter Try.func60, Try.ntmps60
        go_wp2_with fail
        refine (contains_any n w.heap.size A cap fs _ (by simp) (by simp) (HF.out.below (B' := w.heap.size) ((Below.refl _ _).alloc (Nat.le_refl _) _) (Nat.le_refl _) |>.more (by simp)) hl).mono ?_
        rintro e w1 ⟨rfl, hb⟩
        have HB := Lib.hid (((Below.refl w.heap.size w).alloc (Nat.le_refl _) _).trans (hb.mono (by simp)))
        clear hb
        cases ho : fs.any (oddB n)
        · rw [ho] at HR
          go_wp2
          go_ret
          exact ⟨ret_int (by rw [HR.out]; rfl), HB.out⟩
        · rw [ho] at HR
          go_wp2
          go_ret
          exact ⟨ret_int (by rw [HR.out]; rfl), HB.out⟩

end Go.Proofs.Ytejnjaikalckiaa
