/- The contract of diff.Solve. -/
import Derived.Test.YtejnjaikalckiaaDCirc
namespace Go.Proofs.Ytejnjaikalckiaa
open Go.RowKit

/- What Solve comes to for a system that may be asked: the plain solution, or a circle. -/
def SolveOk (m : Nat) (fs : List F) (w : World) (e : Ending) (w' : World) : Prop :=
  Below w.heap.size w w' ∧
  ((∃ l g, Plain m fs l ∧ e = .returned (.tuple #[.slice (some ⟨g, 0, none⟩) m m, .slice none 0 0, .int .i64 0]) ∧ w.heap.size ≤ g ∧ Blk w' g (ints l) 2) ∨
   (∃ v c, IsCircle fs c ∧ c.length ≤ m ∧ e = .returned (.tuple #[.slice none 0 0, v, .int .i64 0]) ∧ w'.ownsRow w.heap.size 3 1 v c.length (nats c)))

theorem own_base {w : World} {b b' : Nat} {e : TypeId} {size n : Nat} {v : Value} {xs : List Value} (h : w.ownsRow b' e size v n xs) (hb : b ≤ b') : w.ownsRow b e size v n xs := by
  refine ⟨h.1, ?_⟩
  rcases h.2 with h0 | ⟨g, cap, cur, h1, h2, h3⟩
  · exact .inl h0
  · exact .inr ⟨g, cap, cur, h1, Nat.le_trans hb h2, h3⟩

set_option maxHeartbeats 2000000 in
theorem solve_no (n : Int) (A : Option Addr) (cap : Nat) (fs : List F) (w : World) (hfs : FactsAt w w.heap.size A fs) (hl : fs.length ≤ maxLen) (hr : refuseB n fs ≠ 0) :
    Calls Try.prog 50 #[.int .i64 n, .slice A fs.length cap] w fun e w' => e = .returned (.tuple #[.slice none 0 0, .slice none 0 0, .int .i64 (refuseB n fs)]) ∧ Below w.heap.size w w' := by
  generalize hc : refuseB n fs = c at *
  have HC := Lib.hid hc
  have t1 : (c != 0) = true := by simpa using hr
  have t2 : (c == 0) = false := by simpa using hr
  clear hc hr
  go_enter Try.func50, Try.ntmps50
  go_wp2_with fail
  refine (refusal_any n A cap fs w hfs hl).mono ?_
  rw [HC.out]
  rintro e w1 ⟨rfl, hb⟩
  have HB := Lib.hid hb
  clear hb
  go_wp2
  go_ret3
  exact ⟨rfl, HB.out⟩

theorem plain_of {fs : List F} {n r : Nat} (fit : FitS n fs) (hr : r < n) (hl : (runs fs n (r + 1)).low = -1) : Plain n fs ((List.range n).map fun i => (runs fs n (r + 1)).at i - (runs fs n (r + 1)).at 0) := by
  have hb : ∀ v, -1152921504606846976 ≤ (runs fs n (r + 1)).at v ∧ (runs fs n (r + 1)).at v ≤ 0 := fun v =>
    at_bounds fit.fit fit.len (by have := fit.n2; omega) (Nat.le_refl _) v
  have e : ∀ i, i < n → ((List.range n).map fun i => (runs fs n (r + 1)).at i - (runs fs n (r + 1)).at 0).getD i 0 = (runs fs n (r + 1)).at i - (runs fs n (r + 1)).at 0 := fun i hi => by
    rw [List.getD_eq_getElem?_getD, List.getElem?_map, List.getElem?_range hi]
    rfl
  refine ⟨by simp, fun i hi => ?_, _, rest_greatest fit.fit hl, e⟩
  rw [e i hi]
  have h1 := hb i
  have h2 := hb 0
  omega

set_option maxHeartbeats 4000000 in
theorem solve_ok (n : Nat) (A : Option Addr) (cap : Nat) (fs : List F) (w : World) (hfs : FactsAt w w.heap.size A fs) (fit : FitS n fs) :
    Calls Try.prog 50 #[.int .i64 n, .slice A fs.length cap] w (SolveOk n fs w) := by
  have hn1 := fit.n1
  have hn2 := fit.n2
  have hlen := fit.len
  have HFIT := Lib.hid fit
  have HF := Lib.hid hfs
  clear fit hfs
  go_enter Try.func50, Try.ntmps50
  go_wp2_with fail
  refine (refusal_any n A cap fs w HF.out (by unfold maxLen; omega)).mono ?_
  rw [refuse_fit HFIT.out]
  rintro e w1 ⟨rfl, hb⟩
  have HB := Lib.hid hb
  clear hb
  go_wp2_with fail
  refine (new_any n A cap fs w1 ((HF.out.below HB.out (Nat.le_refl _)).more HB.out.size) hn2).mono ?_
  rintro e w2 ⟨d, gn, gb, rfl, hd, hb2⟩
  have HB2 := Lib.hid (HB.out.trans (hb2.mono HB.out.size))
  have HD := Lib.hid hd
  have hw1 : w.heap.size ≤ w1.heap.size := HB.out.size
  clear hb2 hd
  go_wp2
  go_loopw [9, 20] (fun lo i wr => ∃ r : Nat, r ≤ n ∧ i = .int .i64 r ∧ lo = .int .i64 (runs fs n r).low ∧ (r = 0 ∨ (runs fs n r).low ≠ -1) ∧ DescAt ⟨w1.heap.size, A, cap, fs, n, d, gn, gb⟩ wr (runs fs n r) ∧ Below w.heap.size w wr) (fun _ i _ => n - (intOf i).toNat)
  case atStart => exact ⟨0, by omega, rfl, rfl, .inl rfl, HD.out, HB2.out⟩
  case round =>
    obtain ⟨r, hrn, rfl, rfl, hlo, hd, hb⟩ := hrel
    have HLO := Lib.hid hlo
    have HDD := Lib.hid hd
    have HBB := Lib.hid hb
    clear hlo hd hb
    by_cases hlt : r < n
    · go_wp2_with fail
      refine (round_any _ (runs fs n r) _ HDD.out HFIT.out.fit hn2 hlen (fun k v hk => at_bounds HFIT.out.fit hlen (by omega) hk v)).mono ?_
      rintro e w3 ⟨rfl, hd3, hb3⟩
      change DescAt _ w3 (runs fs n (r + 1)) at hd3
      change Below w1.heap.size _ _ at hb3
      have HD3 := Lib.hid hd3
      have HB3 := Lib.hid (HBB.out.trans (hb3.mono hw1))
      clear hd3 hb3
      rw [show rnd fs { runs fs n r with low := -1 } fs.length = runs fs n (r + 1) from rfl]
      by_cases hlow : (runs fs n (r + 1)).low = -1
      · have HP := Lib.hid (plain_of HFIT.out hlt hlow)
        have HBD : Hid (∀ v, -1152921504606846976 ≤ (runs fs n (r + 1)).at v ∧ (runs fs n (r + 1)).at v ≤ 0) := Lib.hid fun v => at_bounds HFIT.out.fit hlen (by omega) (Nat.le_refl _) v
        rw [hlow]
        clear hlow
        go_wp2_with fail
        refine (plain_any _ _ _ HD3.out hn2 hn1 HBD.out).mono ?_
        rintro e w4 ⟨g, rfl, hg, hblk, hb4⟩
        have HB4 := Lib.hid (HB3.out.trans (hb4.mono hw1))
        have HG := Lib.hid hg
        have HBLK := Lib.hid hblk
        clear hg hblk hb4
        go_wp2
        go_ret3
        exact ⟨HB4.out, .inl ⟨_, g, HP.out, rfl, Nat.le_trans hw1 HG.out, HBLK.out⟩⟩
      · have t1 : ((runs fs n (r + 1)).low == -1) = false := by simpa using hlow
        have HL := Lib.hid hlow
        clear hlow
        go_wp2
        go_roundw
        case rel => exact ⟨r + 1, by omega, by go_num, rfl, .inr HL.out, HD3.out, HB3.out⟩
        case measure => simp [intOf]; omega
    · have hre : r = n := by omega
      subst hre
      obtain ⟨v, hv, hlv, hk, p, hl⟩ := last_loops HFIT.out.fit hn1 (by rcases HLO.out with h | h; omega; exact h)
      rw [hlv]
      have HK := Lib.hid hk
      have HL := Lib.hid hl
      clear hlv hk hl
      go_wp2_with fail
      refine (circle_any _ _ v p _ HDD.out HFIT.out.fit hn2 hn1 hlen HK.out HL.out).mono ?_
      rintro e w4 ⟨x, c, rfl, hc, hcl, hown, hb4⟩
      have HB4 := Lib.hid (HBB.out.trans (hb4.mono HBB.out.size))
      have HC := Lib.hid hc
      have HO := Lib.hid (own_base hown HBB.out.size)
      clear hb4 hc hown
      go_wp2
      go_ret3
      exact ⟨HB4.out, .inr ⟨x, c, HC.out, hcl, rfl, HO.out⟩⟩

end Go.Proofs.Ytejnjaikalckiaa
