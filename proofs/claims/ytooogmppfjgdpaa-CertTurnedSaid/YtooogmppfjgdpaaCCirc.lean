/- The contracts of cert.isJoined and cert.isBelowZero. -/
import Derived.Test.YtooogmppfjgdpaaCTurn
namespace Go.Proofs.Ytooogmppfjgdpaa
open Go.RowKit

theorem and_mask (C : Int) : bits .and .i64 C 4194303 = C % 4194304 := by
  show IntKind.i64.wrap ((BitVec.ofInt 64 C &&& BitVec.ofInt 64 4194303).toNat : Int) = _
  have h2 : (BitVec.ofInt 64 4194303).toNat = 2 ^ 22 - 1 := by decide
  rw [BitVec.toNat_and, h2, Nat.and_two_pow_sub_one_eq_mod, BitVec.toNat_ofInt]
  have e : (((C % ((2 ^ 64 : Nat) : Int)).toNat % 2 ^ 22 : Nat) : Int) = C % 4194304 := by omega
  rw [e]
  exact IntWalk.i64_in _ (by omega)

/- Numbers of facts: each of them there, with a C within its bounds. -/
structure Good (fs : List F) (k : List Nat) : Prop where
  lt : ∀ i, i < k.length → k.getD i 0 < fs.length
  c0 : ∀ i, i < k.length → -17592186044416 ≤ (fs.getD (k.getD i 0) zeroF).c
  c1 : ∀ i, i < k.length → (fs.getD (k.getD i 0) zeroF).c ≤ 17592186044416

theorem two_at {A A2 : Option Addr} {fs : List F} {k : List Nat} {w : World} (hfs : FactsAt w w.heap.size A fs) (hks : NumsAt w w.heap.size A2 (natInts k)) (hlt : ∀ i, i < k.length → k.getD i 0 < fs.length) (h0 : 0 < k.length) :
    ∃ b off b2 off2, A = some ⟨b, off, none⟩ ∧ A2 = some ⟨b2, off2, none⟩ ∧ b < w.heap.size ∧ b2 < w.heap.size ∧ ∀ i, i < k.length → w.cell? ⟨b2, off2 + i, none⟩ = some (.int .i64 (k.getD i 0 : Nat)) ∧
      w.cell? ⟨b, off + k.getD i 0 * 3, none⟩ = some (.int .i64 (fs.getD (k.getD i 0) zeroF).x) ∧ w.cell? ⟨b, off + k.getD i 0 * 3 + 1, none⟩ = some (.int .i64 (fs.getD (k.getD i 0) zeroF).y) ∧ w.cell? ⟨b, off + k.getD i 0 * 3 + 2, none⟩ = some (.int .i64 (fs.getD (k.getD i 0) zeroF).c) := by
  obtain ⟨b2, off2, rfl, hb2, hc2⟩ := hks (by rw [natInts_len]; exact h0)
  obtain ⟨b, off, rfl, hb, hc⟩ := hfs (by have := hlt 0 h0; omega)
  refine ⟨b, off, b2, off2, rfl, rfl, hb, hb2, fun i hi => ?_⟩
  have e := hc2 i (by rw [natInts_len]; exact hi)
  rw [natInts_get] at e
  have hf : fs[k.getD i 0]? = some (fs.getD (k.getD i 0) zeroF) := by
    rw [List.getD_eq_getElem?_getD (l := fs), List.getElem?_eq_getElem (hlt i hi)]
    rfl
  obtain ⟨c0, c1, c2⟩ := hc _ _ hf
  exact ⟨e, c0, c1, c2⟩

theorem hi_lo {C H L S : Int} (h : H * 4194304 + L = S) : (H + C / 4194304) * 4194304 + (L + C % 4194304) = S + C := by omega
theorem hi_lo_neg {H L S : Int} (h : H * 4194304 + L = S) : (H + L / 4194304 < 0) ↔ S < 0 := by omega

set_option maxHeartbeats 2000000 in
theorem below_any (A A2 : Option Addr) (cap c2 : Nat) (fs : List F) (k : List Nat) (w : World) (hfs : FactsAt w w.heap.size A fs) (hks : NumsAt w w.heap.size A2 (natInts k)) (hg : Good fs k) (h0 : 0 < k.length) (hl : k.length ≤ 1099511627776) (_hfl : fs.length ≤ maxLen) :
    Calls Try.prog 34 #[.slice A2 k.length c2, .slice A fs.length cap] w fun e w' => e = .returned (.bool (decide ((costs fs k).sum < 0))) ∧ w = w' := by
  unfold maxLen at _hfl
  obtain ⟨b, off, b2, off2, rfl, rfl, hb, hb2, hc⟩ := two_at hfs hks hg.lt h0
  have HC := Lib.hid hc
  have HG := Lib.hid hg
  clear hfs hks hc hg
  go_enter Try.func34, Try.ntmps34
  go_wp2
  go_loopw [5, 6, 12] (fun hi lo i wr => ∃ j : Nat, ∃ H L : Int, j ≤ k.length ∧ i = .int .i64 j ∧ hi = .int .i64 H ∧ lo = .int .i64 L ∧ wr = w ∧ H * 4194304 + L = ((costs fs k).take j).sum ∧ -4194304 * (j : Int) ≤ H ∧ H ≤ 4194304 * (j : Int) ∧ 0 ≤ L ∧ L ≤ 4194304 * (j : Int)) (fun _ _ i _ => k.length - (intOf i).toNat)
  case atStart => exact ⟨0, 0, 0, by omega, rfl, rfl, rfl, rfl, by simp, by simp, by simp, by simp, by simp⟩
  case round =>
    obtain ⟨j, H, L, hj, rfl, rfl, rfl, rfl, hs, hH0, hH1, hL0, hL1⟩ := hrel
    by_cases hlt : j < k.length
    · obtain ⟨d0, _, _, d3⟩ := HC.out j hlt
      have hq := HG.out.lt j hlt
      have hq0 := HG.out.c0 j hlt
      have hq1 := HG.out.c1 j hlt
      have hst := sum_take_succ (costs fs k) j (by simp [costs]; exact hlt)
      rw [costs_get fs k j hlt] at hst
      generalize k.getD j 0 = q at *
      have hq' : (q : Int) < (fs.length : Int) := by omega
      have hj' : (j : Int) < (k.length : Int) := by omega
      generalize (fs.getD q zeroF).c = C at *
      have HS := Lib.hid (show (H + C / 4194304) * 4194304 + (L + C % 4194304) = ((costs fs k).take (j + 1)).sum by rw [hst]; exact hi_lo hs)
      clear hs hst
      have hbits := and_mask C
      have w1 : IntKind.i64.wrap (H + C / 4194304) = H + C / 4194304 := IntWalk.i64_in _ (by omega)
      have w2 : IntKind.i64.wrap (L + C % 4194304) = L + C % 4194304 := IntWalk.i64_in _ (by omega)
      go_wp2
      go_roundw
      case rel => exact ⟨j + 1, H + C / 4194304, L + C % 4194304, by omega, by go_num, by first | rfl | (congr 1), by first | rfl | (congr 1), by first | rfl | trivial, HS.out, by omega, by omega, by omega, by omega⟩
      case measure => simp [intOf]; omega
    · have hje : j = k.length := by omega
      subst hje
      rw [List.take_of_length_le (by simp [costs])] at hs
      have w1 : IntKind.i64.wrap (H + L / 4194304) = H + L / 4194304 := IntWalk.i64_in _ (by omega)
      have HD := Lib.hid (show decide (H + L / 4194304 < 0) = decide ((costs fs k).sum < 0) by rw [Bool.eq_iff_iff]; simp only [decide_eq_true_eq]; exact hi_lo_neg hs)
      clear hs
      go_wp2
      go_ret
      exact ⟨ret_bool (by first | exact HD.out | (simp only [wrap64]; exact HD.out)), rfl⟩

/- The place ahead of a place in the circle. -/
def ahead (n j : Nat) : Nat := if j = 0 then n - 1 else j - 1

theorem ahead_all {fs : List F} {k : List Nat} (h0 : 0 < k.length) :
    (∀ j, j < k.length → (fs.getD (k.getD (ahead k.length j) 0) zeroF).y = (fs.getD (k.getD j 0) zeroF).x) ↔ (∀ i, i < k.length → (fs.getD (k.getD i 0) zeroF).y = (fs.getD (k.getD ((i + 1) % k.length) 0) zeroF).x) := by
  constructor
  · intro h i hi
    by_cases he : i + 1 = k.length
    · have := h 0 h0
      rw [he, Nat.mod_self]
      rw [ahead, if_pos rfl, show k.length - 1 = i by omega] at this
      exact this
    · have := h (i + 1) (by omega)
      rw [Nat.mod_eq_of_lt (by omega)]
      rw [ahead, if_neg (by omega), Nat.add_sub_cancel] at this
      exact this
  · intro h j hj
    by_cases he : j = 0
    · have := h (k.length - 1) (by omega)
      rw [show k.length - 1 + 1 = k.length by omega, Nat.mod_self] at this
      rw [ahead, if_pos he, he]
      exact this
    · have := h (j - 1) (by omega)
      rw [show j - 1 + 1 = j by omega, Nat.mod_eq_of_lt hj] at this
      rw [ahead, if_neg he]
      exact this

set_option maxHeartbeats 2000000 in
theorem joined_any (A A2 : Option Addr) (cap c2 : Nat) (fs : List F) (k : List Nat) (w : World) (hfs : FactsAt w w.heap.size A fs) (hks : NumsAt w w.heap.size A2 (natInts k)) (hlt : ∀ i, i < k.length → k.getD i 0 < fs.length) (h0 : 0 < k.length) (hl : k.length ≤ maxLen) (_hfl : fs.length ≤ maxLen) :
    Calls Try.prog 33 #[.slice A2 k.length c2, .slice A fs.length cap] w fun e w' => ∃ r, e = .returned (.bool r) ∧ (r = true ↔ ∀ i, i < k.length → (fs.getD (k.getD i 0) zeroF).y = (fs.getD (k.getD ((i + 1) % k.length) 0) zeroF).x) ∧ Below w.heap.size w w' := by
  unfold maxLen at _hfl hl
  obtain ⟨b, off, b2, off2, rfl, rfl, hb, hb2, hc⟩ := two_at hfs hks hlt h0
  have HC := Lib.hid hc
  have HLT := Lib.hid hlt
  have HE := Lib.hid (ahead_all (fs := fs) h0)
  have d0 := (hc (k.length - 1) (by omega)).1
  have d1 := (hc (k.length - 1) (by omega)).2.1
  have d2 := (hc (k.length - 1) (by omega)).2.2.1
  have d3 := (hc (k.length - 1) (by omega)).2.2.2
  have dq := hlt (k.length - 1) (by omega)
  have HZ := Lib.hid (show fs.getD (k.getD (ahead k.length 0) 0) zeroF = fs.getD (k.getD (k.length - 1) 0) zeroF from rfl)
  generalize hq : k.getD (k.length - 1) 0 = q at *
  generalize fs.getD q zeroF = fq at *
  clear hfs hks hc hlt
  have hw1 : IntKind.i64.wrap ((k.length : Int) - 1) = ((k.length - 1 : Nat) : Int) := by rw [show ((k.length : Int) - 1) = ((k.length - 1 : Nat) : Int) by omega]; exact IntWalk.i64_in _ (by omega)
  have hw2 : ((k.length : Int) - 1) = ((k.length - 1 : Nat) : Int) := by omega
  go_enter Try.func33, Try.ntmps33
  go_wp2
  go_loopw [19] (fun i wr => ∃ j : Nat, j ≤ k.length ∧ i = .int .i64 j ∧ Below w.heap.size w wr ∧ Blk wr w.heap.size (fCells (fs.getD (k.getD (ahead k.length j) 0) zeroF)) 35 ∧ ∀ i, i < j → (fs.getD (k.getD (ahead k.length i) 0) zeroF).y = (fs.getD (k.getD i 0) zeroF).x) (fun i _ => k.length - (intOf i).toNat)
  case atStart => exact ⟨0, by omega, rfl, (Below.refl _ _).alloc (Nat.le_refl _) _, by rw [HZ.out]; exact Blk.new w (fCells fq) _, fun i hi => absurd hi (by omega)⟩
  case round =>
    obtain ⟨j, hj, rfl, hbw, hblk, hall⟩ := hrel
    have HB := Lib.hid hbw
    have HK := Lib.hid hblk
    have HA := Lib.hid hall
    clear hbw hblk hall d0 d1 d2 d3
    by_cases hjl : j < k.length
    · obtain ⟨e0, e1, e2, e3⟩ := HC.out j hjl
      have d0 := (HB.out.cell (p := ⟨b2, off2 + j, none⟩) hb2).trans e0
      have d1 := (HB.out.cell (p := ⟨b, off + k.getD j 0 * 3, none⟩) hb).trans e1
      have d2 := (HB.out.cell (p := ⟨b, off + k.getD j 0 * 3 + 1, none⟩) hb).trans e2
      have d3 := (HB.out.cell (p := ⟨b, off + k.getD j 0 * 3 + 2, none⟩) hb).trans e3
      have hqj := HLT.out j hjl
      have l0 := HK.out.cell 0
      have l1 := HK.out.cell 1
      have l2 := HK.out.cell 2
      have f0 := HK.out.frozen 0
      have f1 := HK.out.frozen 1
      have f2 := HK.out.frozen 2
      simp only [fCells, List.getElem?_cons_zero, List.getElem?_cons_succ] at l0 l1 l2
      have HN := Lib.hid (show ahead k.length (j + 1) = j by unfold ahead; rw [if_neg (by omega), Nat.add_sub_cancel])
      clear e0 e1 e2 e3
      by_cases heq : (fs.getD (k.getD (ahead k.length j) 0) zeroF).y = (fs.getD (k.getD j 0) zeroF).x
      · have HQ := Lib.hid heq
        generalize hfj : fs.getD (k.getD j 0) zeroF = fj at d1 d2 d3 heq
        generalize hfl2 : fs.getD (k.getD (ahead k.length j) 0) zeroF = fl at l0 l1 l2 heq
        have HF1 := Lib.hid hfj
        generalize hqq : k.getD j 0 = qq at d0 d1 d2 d3 hqj
        have hqj' : (qq : Int) < (fs.length : Int) := by omega
        have hjj : (j : Int) < (k.length : Int) := by omega
        have t1 : (fl.y != fj.x) = false := by simpa using heq
        have t2 : (fl.y == fj.x) = true := by simpa using heq
        clear hfj hqq heq hfl2
        go_wp2
        go_quiet (fail)
        go_wp2
        go_roundw
        case rel =>
          refine ⟨j + 1, by omega, by go_num, ((((below_drewN HB.out _).setCell (p := ⟨w.heap.size, 0, none⟩) (Nat.le_refl _) _).setCell (p := ⟨w.heap.size, 1, none⟩) (Nat.le_refl _) _).setCell (p := ⟨w.heap.size, 2, none⟩) (Nat.le_refl _) _), ?_, fun i hi => ?_⟩
          · rw [HN.out, HF1.out]
            exact (((HK.out.drewN nq).put 0 (.int .i64 fj.x)).put 1 (.int .i64 fj.y)).put 2 (.int .i64 fj.c)
          · by_cases hij : i < j
            · exact HA.out i hij
            · obtain rfl : i = j := by omega
              exact HQ.out
        case measure => simp [intOf]; omega
      · have HQ := Lib.hid heq
        generalize hfj : fs.getD (k.getD j 0) zeroF = fj at d1 d2 d3 heq
        generalize hfl2 : fs.getD (k.getD (ahead k.length j) 0) zeroF = fl at l0 l1 l2 heq
        generalize hqq : k.getD j 0 = qq at d0 d1 d2 d3 hqj
        have hqj' : (qq : Int) < (fs.length : Int) := by omega
        have hjj : (j : Int) < (k.length : Int) := by omega
        have t1 : (fl.y != fj.x) = true := by simpa using heq
        have t2 : (fl.y == fj.x) = false := by simpa using heq
        clear hfj hqq heq hfl2
        go_wp2
        go_quiet (fail)
        go_wp2
        go_ret
        exact ⟨false, rfl, ⟨fun h => (by cases h), fun h => absurd (HE.out.2 h j hjl) HQ.out⟩, below_drewN HB.out _⟩
    · have hje : j = k.length := by omega
      subst hje
      go_wp2
      go_ret
      exact ⟨true, rfl, ⟨fun _ => HE.out.1 HA.out, fun _ => rfl⟩, HB.out⟩

end Go.Proofs.Ytooogmppfjgdpaa
