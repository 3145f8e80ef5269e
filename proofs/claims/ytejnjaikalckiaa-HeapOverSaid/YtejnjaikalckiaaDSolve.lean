/- The contracts of plain, circle and diff.Solve. -/
import Derived.Test.YtejnjaikalckiaaDRound
import Derived.Deep.AppendLies
namespace Go.Proofs.Ytejnjaikalckiaa
open Go.RowKit

/- A row of numbers of the call's own. -/
def OwnInts (base : Nat) (e : TypeId) (w : World) (v : Value) (l : List Int) : Prop := ∃ g, v = .slice (some ⟨g, 0, none⟩) l.length l.length ∧ base ≤ g ∧ Blk w g (ints l) e

def PlainPost (E : Env) (s : St) (w : World) (e : Ending) (w' : World) : Prop :=
  ∃ g, e = .returned (.slice (some ⟨g, 0, none⟩) E.n E.n) ∧ E.base ≤ g ∧ Blk w' g (ints ((List.range E.n).map fun i => s.at i - s.at 0)) 2 ∧ Below E.base w w'

def upto (n k : Nat) (f : Nat → Int) : List Int := (List.range n).map fun i => if i < k then f i else 0
theorem upto_len (n k : Nat) (f : Nat → Int) : (upto n k f).length = n := by simp [upto]
theorem upto_zero (n : Nat) (f : Nat → Int) : upto n 0 f = List.replicate n 0 := by
  apply List.ext_getElem?
  intro i
  by_cases h : i < n <;> simp [upto, h]
theorem upto_full (n : Nat) (f : Nat → Int) : upto n n f = (List.range n).map f := by
  apply List.ext_getElem?
  intro i
  by_cases h : i < n <;> simp [upto, h]
theorem upto_set (n k : Nat) (f : Nat → Int) (_h : k < n) : (upto n k f).set k (f k) = upto n (k + 1) f := by
  apply List.ext_getElem?
  intro i
  rw [List.getElem?_set]
  by_cases hi : i < n
  · by_cases hk : k = i
    · subst hk; simp [upto, hi]
    · rw [if_neg hk]
      simp only [upto, List.getElem?_map, List.getElem?_range hi, Option.map_some]
      by_cases h2 : i < k
      · rw [if_pos h2, if_pos (by omega)]
      · rw [if_neg h2, if_neg (by omega)]
  · rw [if_neg (by omega)]
    simp [upto, hi]

set_option maxHeartbeats 2000000 in
theorem plain_any (E : Env) (s : St) (w : World) (h : DescAt E w s) (hn : E.n ≤ 96) (hn0 : 1 ≤ E.n) (hbd : ∀ v, -1152921504606846976 ≤ s.at v ∧ s.at v ≤ 0) :
    Calls Try.prog 66 #[.pointer (some ⟨E.d, 0, none⟩)] w (PlainPost E s w) := by
  obtain ⟨base, A, cap, fs, n, d, gn, gb⟩ := E
  simp only at hn hn0
  have d1 := h.blk.cell 1
  simp only [List.getElem?_cons_zero, List.getElem?_cons_succ] at d1
  have lb : base ≤ w.heap.size := Nat.le_trans h.bd (Nat.le_of_lt h.blk.lt)
  have ld : d < w.heap.size := h.blk.lt
  have lg : gn < w.heap.size := h.num.lt
  have HD := Lib.hid h
  have HBD := Lib.hid hbd
  clear h hbd
  have hm1 := run_make_ints Try.underlying54 Try.infoI64 n (by omega)
  go_enter Try.func66, Try.ntmps66
  go_wp2
  clear hm1
  go_loopw [17] (fun i wr => ∃ k : Nat, k ≤ n ∧ i = .int .i64 k ∧ Below w.heap.size w wr ∧ Blk wr w.heap.size (ints (upto n k fun i => s.at i - s.at 0)) 2) (fun i _ => n - (intOf i).toNat)
  case atStart => exact ⟨0, by omega, rfl, (Below.refl _ _).alloc (Nat.le_refl _) _, by rw [upto_zero]; exact Blk.new w _ _⟩
  case round =>
    obtain ⟨k, hk, rfl, hb, hblk⟩ := hrel
    by_cases hlt : k < n
    · have e1 : wr.cell? ⟨d, 1, none⟩ = _ := (hb.cell (p := ⟨d, 1, none⟩) ld).trans d1
      have hln : s.num.length = n := HD.out.ln
      have c0 : wr.cell? ⟨gn, 0, none⟩ = some (.int .i64 (s.at 0)) := (hb.cell (p := ⟨gn, 0, none⟩) lg).trans ((HD.out.num.cell 0).trans (intsGet s.num 0 (by omega)))
      have ck : wr.cell? ⟨gn, k, none⟩ = some (.int .i64 (s.at k)) := (hb.cell (p := ⟨gn, k, none⟩) lg).trans ((HD.out.num.cell k).trans (intsGet s.num k (by omega)))
      have g1 := hblk.frozen k
      obtain ⟨ov, g2⟩ : ∃ v, wr.cell? ⟨w.heap.size, k, none⟩ = some v := ⟨_, (hblk.cell k).trans (intsGet _ k (by rw [upto_len]; exact hlt))⟩
      have b0 := HBD.out 0
      have bk := HBD.out k
      have HB := Lib.hid hb
      have HK := Lib.hid hblk
      have hzk : (0 : Int) < (n : Int) := by omega
      clear hb hblk hln
      go_wp2
      go_roundw
      case rel =>
        refine ⟨k + 1, by omega, by go_num, HB.out.setCell (p := ⟨w.heap.size, k, none⟩) (Nat.le_refl _) _, ?_⟩
        have := HK.out.put k (.int .i64 (s.at k - s.at 0))
        rw [intsSet, upto_set n k (fun i => s.at i - s.at 0) hlt] at this
        exact this
      case measure => simp [intOf]; omega
    · have hke : k = n := by omega
      subst hke
      go_wp2
      go_ret
      refine ⟨w.heap.size, rfl, lb, ?_, hb.mono lb⟩
      rw [upto_full] at hblk
      exact hblk

end Go.Proofs.Ytejnjaikalckiaa
