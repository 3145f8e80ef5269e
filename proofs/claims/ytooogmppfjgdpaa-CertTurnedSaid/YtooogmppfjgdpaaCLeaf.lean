/- The contracts of cert's leaves: within, the closures of fit, Holds and isCircle. -/
import Derived.Test.YtooogmppfjgdpaaDNumsAt
namespace Go.Proofs.Ytooogmppfjgdpaa
open Go.RowKit

def inB (m x : Int) : Bool := decide (-m ≤ x) && decide (x ≤ m)

set_option maxHeartbeats 1000000 in
theorem within_any (x m : Int) (w : World) (h0 : 0 ≤ m) (h1 : m ≤ 4611686018427387904) :
    Calls Try.prog 21 #[.int .i64 x, .int .i64 m] w fun e w' => e = .returned (.bool (inB m x)) ∧ w = w' := by
  go_enter Try.func21, Try.ntmps21
  go_wp2
  all_goals go_ret
  all_goals refine ⟨ret_bool ?_, rfl⟩
  all_goals (unfold inB; first | (simp [*]; done) | (rw [Bool.eq_iff_iff]; simp; omega))

set_option maxHeartbeats 1000000 in
theorem fitOdd_any (n : Int) (g : Nat) (f : F) (w : World) (hg : w.cell? ⟨g, 0, none⟩ = some (.int .i64 n)) (hlt : g < w.heap.size) :
    Calls Try.prog 36 #[.agg #[.int .i64 f.x, .int .i64 f.y, .int .i64 f.c], .pointer (some ⟨g, 0, none⟩)] w fun e w' => e = .returned (.bool (oddB n f)) ∧ Below w.heap.size w w' := by
  obtain ⟨x, y, c⟩ := f
  go_enter Try.func36, Try.ntmps36
  go_wp2_with (go_at_call 21; refine (within_any _ _ _ (by decide) (by decide)).mono ?_; rintro e w' ⟨rfl, rfl⟩)
  all_goals try (go_wp2)
  all_goals go_ret
  all_goals refine ⟨ret_bool ?_, (Below.refl _ _).alloc (Nat.le_refl _) _⟩
  all_goals (unfold oddB; first | (simp [*]; done) | (unfold inB; rw [Bool.eq_iff_iff]; simp; omega))

/- The variable's number is there, and within its bounds. -/
def fineB (zs : List Int) (v : Int) : Bool := decide (0 ≤ v) && decide (v < zs.length) && inB 4503599627370496 (zs.getD v.toNat 0)

set_option maxHeartbeats 1000000 in
theorem fine_any (zs : List Int) (v : Int) (g cap : Nat) (A : Option Addr) (w : World) (hg : w.cell? ⟨g, 0, none⟩ = some (.slice A zs.length cap)) (hzs : NumsAt w w.heap.size A zs) (hl : zs.length ≤ maxLen) :
    Calls Try.prog 20 #[.int .i64 v, .pointer (some ⟨g, 0, none⟩)] w fun e w' => e = .returned (.bool (fineB zs v)) ∧ w = w' := by
  unfold maxLen at hl
  by_cases h0 : 0 ≤ v
  · by_cases h1 : v < zs.length
    · obtain ⟨k, rfl⟩ := Int.eq_ofNat_of_zero_le h0
      obtain ⟨b, off, rfl, hb, hc⟩ := hzs (by omega)
      have ck := hc k (by omega)
      have HE := Lib.hid (show fineB zs (k : Int) = inB 4503599627370496 (zs.getD k 0) by unfold fineB; rw [Int.toNat_natCast, decide_eq_true h0, decide_eq_true h1]; rfl)
      generalize zs.getD k 0 = z at *
      clear hc hzs
      go_enter Try.func20, Try.ntmps20
      go_wp2_with (go_at_call 21; refine (within_any _ _ _ (by decide) (by decide)).mono ?_; rintro e w' ⟨rfl, rfl⟩)
      go_ret
      exact ⟨ret_bool HE.out.symm, rfl⟩
    · have HE := Lib.hid (show fineB zs v = false by unfold fineB; rw [decide_eq_false h1, Bool.and_false, Bool.false_and])
      go_enter Try.func20, Try.ntmps20
      go_wp2
      go_ret
      exact ⟨ret_bool HE.out.symm, rfl⟩
  · have HE := Lib.hid (show fineB zs v = false by unfold fineB; rw [decide_eq_false h0, Bool.false_and, Bool.false_and])
    go_enter Try.func20, Try.ntmps20
    go_wp2
    go_ret
    exact ⟨ret_bool HE.out.symm, rfl⟩

/- The number is none of a fact with a C within its bounds. -/
def circOdd (fs : List F) (v : Int) : Bool := decide (v < 0) || decide (fs.length ≤ v) || !inB 17592186044416 (fs.getD v.toNat zeroF).c

set_option maxHeartbeats 1000000 in
theorem circOdd_any (fs : List F) (v : Int) (g cap : Nat) (A : Option Addr) (w : World) (hg : w.cell? ⟨g, 0, none⟩ = some (.slice A fs.length cap)) (hfs : FactsAt w w.heap.size A fs) (hl : fs.length ≤ maxLen) :
    Calls Try.prog 31 #[.int .i64 v, .pointer (some ⟨g, 0, none⟩)] w fun e w' => e = .returned (.bool (circOdd fs v)) ∧ w = w' := by
  unfold maxLen at hl
  by_cases h0 : v < 0
  · have HE := Lib.hid (show circOdd fs v = true by unfold circOdd; rw [decide_eq_true h0, Bool.true_or, Bool.true_or])
    go_enter Try.func31, Try.ntmps31
    go_wp2
    go_ret
    exact ⟨ret_bool HE.out.symm, rfl⟩
  · by_cases h1 : (fs.length : Int) ≤ v
    · have HE := Lib.hid (show circOdd fs v = true by unfold circOdd; rw [decide_eq_true h1, Bool.or_true, Bool.true_or])
      go_enter Try.func31, Try.ntmps31
      go_wp2
      go_ret
      exact ⟨ret_bool HE.out.symm, rfl⟩
    · obtain ⟨k, rfl⟩ := Int.eq_ofNat_of_zero_le (Int.not_lt.1 h0)
      obtain ⟨b, off, rfl, hb, hc⟩ := hfs (by omega)
      obtain ⟨_, _, ck⟩ := hc k _ (List.getElem?_eq_getElem (show k < fs.length by omega))
      have HE := Lib.hid (show circOdd fs (k : Int) = !inB 17592186044416 fs[k].c by unfold circOdd; rw [Int.toNat_natCast, decide_eq_false h0, decide_eq_false h1, List.getD_eq_getElem?_getD, List.getElem?_eq_getElem (show k < fs.length by omega)]; rfl)
      generalize fs[k].c = z at *
      clear hc hfs
      go_enter Try.func31, Try.ntmps31
      go_wp2_with (go_at_call 21; refine (within_any _ _ _ (by decide) (by decide)).mono ?_; rintro e w' ⟨rfl, rfl⟩)
      all_goals try go_wp2
      all_goals go_ret
      all_goals exact ⟨ret_bool (by rw [HE.out]), rfl⟩

end Go.Proofs.Ytooogmppfjgdpaa
