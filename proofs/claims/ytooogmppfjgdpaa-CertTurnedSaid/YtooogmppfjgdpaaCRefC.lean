/- The contracts of lychgateref05.Circle and lychgateref05.Holds. -/
import Derived.Test.YtooogmppfjgdpaaCCheck
namespace Go.Proofs.Ytooogmppfjgdpaa
open Go.RowKit

theorem sum_bound44 (l : List Int) (h : ∀ x ∈ l, -17592186044416 ≤ x ∧ x ≤ 17592186044416) : ∀ k : Nat, -17592186044416 * (k : Int) ≤ (l.take k).sum ∧ (l.take k).sum ≤ 17592186044416 * (k : Int)
  | 0 => by simp
  | k + 1 => by
    have ih := sum_bound44 l h k
    by_cases hk : k < l.length
    · rw [sum_take_succ l k hk]
      have := h (l.getD k 0) (by rw [List.getD_eq_getElem?_getD, List.getElem?_eq_getElem hk]; exact List.getElem_mem hk)
      omega
    · rw [List.take_of_length_le (by omega)] at ih ⊢
      omega

theorem Good.costs {fs : List F} {k : List Nat} (h : Good fs k) : ∀ x ∈ costs fs k, -17592186044416 ≤ x ∧ x ≤ 17592186044416 := fun x hx => by
  unfold Proofs.Ytooogmppfjgdpaa.costs at hx
  obtain ⟨q, hq, rfl⟩ := List.mem_map.1 hx
  obtain ⟨i, hi, e⟩ := List.getElem_of_mem hq
  have h2 := h.c0 i hi
  have h3 := h.c1 i hi
  rw [List.getD_eq_getElem?_getD (l := k), List.getElem?_eq_getElem hi, e] at h2 h3
  exact ⟨h2, h3⟩

theorem odd_any_true {p : Int → Bool} {l : List Int} {k : Nat} (hk : k < l.length) (ho : p (l.getD k 0) = true) : l.any p = true :=
  List.any_eq_true.2 ⟨l.getD k 0, by rw [List.getD_eq_getElem?_getD, List.getElem?_eq_getElem hk]; exact List.getElem_mem hk, ho⟩

set_option maxHeartbeats 8000000 in
theorem refCircle_any (AF : Option Addr) (capF : Nat) (fs : List F) (A : Option Addr) (cap : Nat) (l : List Int) (w : World) (hfs : FactsAt w w.heap.size AF fs) (hfl : fs.length ≤ maxLen) (hls : NumsAt w w.heap.size A l) :
    Calls Try.prog 11 #[.slice A l.length cap, .slice AF fs.length capF] w (CertCirc l fs w) := by
  unfold maxLen at hfl
  have HF := Lib.hid hfs
  have HL := Lib.hid hls
  clear hfs hls
  by_cases h0 : l.length = 0
  · have HN : Hid (¬ CircleP l fs) := Lib.hid (by rintro ⟨_, k, rfl, hk, _⟩; have := hk.ne; rw [natInts_len] at h0; omega)
    have t0 : (l.length : Int) = 0 := by omega
    go_enter Try.func11, Try.ntmps11
    go_wp2
    go_ret
    exact ⟨false, rfl, ⟨fun h => (by cases h), fun h => absurd h HN.out⟩, Below.refl _ _⟩
  · by_cases h1 : 65536 < l.length
    · have HN : Hid (¬ CircleP l fs) := Lib.hid (fun h => by have := h.1; omega)
      have t0 : (65536 : Int) < (l.length : Int) := by omega
      have t1 : ¬ (l.length : Int) < 1 := by omega
      go_enter Try.func11, Try.ntmps11
      go_wp2
      go_ret
      exact ⟨false, rfl, ⟨fun h => (by cases h), fun h => absurd h HN.out⟩, Below.refl _ _⟩
    · have t0 : ¬ (65536 : Int) < (l.length : Int) := by omega
      have t1 : ¬ (l.length : Int) < 1 := by omega
      obtain ⟨b2, off2, rfl, hb2, hc2⟩ := HL.out (by omega)
      have HC2 := Lib.hid hc2
      clear hc2
      go_enter Try.func11, Try.ntmps11
      go_wp2
      go_loopw [5] (fun i wr => ∃ j : Nat, j ≤ l.length ∧ i = .int .i64 j ∧ (∃ q, wr = w.drewN q) ∧ (l.take j).any (circOdd fs) = false) (fun i _ => l.length - (intOf i).toNat)
      case atStart => exact ⟨0, by omega, rfl, ⟨0, rfl⟩, by simp⟩
      case round =>
        obtain ⟨j, hj, rfl, ⟨q, rfl⟩, hno⟩ := hrel
        have HNO := Lib.hid hno
        clear hno
        by_cases hjl : j < l.length
        · have d0 := HC2.out j hjl
          have hjj : (j : Int) < (l.length : Int) := by omega
          obtain ⟨z, hz⟩ : ∃ z, l.getD j 0 = z := ⟨_, rfl⟩
          rw [hz] at d0
          have HZ := Lib.hid hz
          clear hz
          by_cases hz0 : z < 0
          · have HN : Hid (¬ CircleP l fs) := Lib.hid (fun h => by have := circP_odd h.2; rw [odd_any_true hjl (by rw [HZ.out]; unfold circOdd; simp [hz0])] at this; cases this)
            go_wp2
            go_ret
            exact ⟨false, rfl, ⟨fun h => (by cases h), fun h => absurd h HN.out⟩, below_drewN (Below.refl _ _) _⟩
          · by_cases hz1 : (fs.length : Int) ≤ z
            · have HN : Hid (¬ CircleP l fs) := Lib.hid (fun h => by have := circP_odd h.2; rw [odd_any_true hjl (by rw [HZ.out]; unfold circOdd; simp [hz1])] at this; cases this)
              go_wp2
              go_ret
              exact ⟨false, rfl, ⟨fun h => (by cases h), fun h => absurd h HN.out⟩, below_drewN (Below.refl _ _) _⟩
            · obtain ⟨m, rfl⟩ := Int.eq_ofNat_of_zero_le (Int.not_lt.1 hz0)
              obtain ⟨b, off, rfl, hb, hc⟩ := HF.out (by omega)
              obtain ⟨_, _, e3⟩ := hc m _ (List.getElem?_eq_getElem (show m < fs.length by omega))
              have HOD := Lib.hid (show circOdd fs (m : Int) = !inB 17592186044416 fs[m].c by unfold circOdd; rw [Int.toNat_natCast, decide_eq_false hz0, decide_eq_false hz1, List.getD_eq_getElem?_getD, List.getElem?_eq_getElem (show m < fs.length by omega)]; rfl)
              have hml : (m : Int) < (fs.length : Int) := by omega
              generalize fs[m].c = C at *
              clear hc
              by_cases hC : inB 17592186044416 C = true
              · have hC' := hC
                unfold inB at hC'
                simp only [Bool.and_eq_true, decide_eq_true_eq] at hC'
                have u1 : ¬ (17592186044416 : Int) < C := by omega
                have u2 : ¬ C < (-17592186044416 : Int) := by omega
                have HNX := Lib.hid (int_next (circOdd fs) hjl HNO.out (by rw [HZ.out, HOD.out, hC]; rfl))
                clear hC'
                go_wp2
                go_roundw
                case rel => exact ⟨j + 1, by omega, by go_num, ⟨q, rfl⟩, HNX.out⟩
                case measure => simp [intOf]; omega
              · have hC' : inB 17592186044416 C = false := by simpa using hC
                have HN : Hid (¬ CircleP l fs) := Lib.hid (fun h => by have := circP_odd h.2; rw [odd_any_true hjl (by rw [HZ.out, HOD.out, hC']; rfl)] at this; cases this)
                unfold inB at hC'
                simp only [Bool.and_eq_false_iff, decide_eq_false_iff_not] at hC'
                by_cases u1 : (17592186044416 : Int) < C
                · go_wp2
                  go_ret
                  exact ⟨false, rfl, ⟨fun h => (by cases h), fun h => absurd h HN.out⟩, below_drewN (Below.refl _ _) _⟩
                · have u2 : C < (-17592186044416 : Int) := by omega
                  go_wp2
                  go_ret
                  exact ⟨false, rfl, ⟨fun h => (by cases h), fun h => absurd h HN.out⟩, below_drewN (Below.refl _ _) _⟩
        · have hje : j = l.length := by omega
          subst hje
          have hno := HNO.out
          rw [List.take_of_length_le (Nat.le_refl _)] at hno
          obtain ⟨k, rfl, hg⟩ := good_of hno
          rw [natInts_len] at *
          have hk0 : 0 < k.length := by omega
          have HI := Lib.hid (circP_iff hg hk0)
          have HG := Lib.hid hg
          have hls := HL.out
          obtain ⟨b, off, b', off', rfl, e', hb, _, hc⟩ := two_at HF.out hls hg.lt hk0
          cases e'
          have HC := Lib.hid hc
          clear hno hg hls hc HC2 HNO
          go_wp2
          go_loopw [7, 8] (fun s i wr => ∃ j : Nat, ∃ S : Int, j ≤ k.length ∧ i = .int .i64 j ∧ s = .int .i64 S ∧ S = ((costs fs k).take j).sum ∧ (∃ q, wr = w.drewN q) ∧ ∀ i, i < j → (fs.getD (k.getD i 0) zeroF).y = (fs.getD (k.getD ((i + 1) % k.length) 0) zeroF).x) (fun _ i _ => k.length - (intOf i).toNat)
          case atStart => exact ⟨0, 0, by omega, rfl, rfl, by simp, ⟨q, rfl⟩, fun i hi => absurd hi (by omega)⟩
          case round =>
            obtain ⟨j, S, hj, rfl, rfl, hS, ⟨q2, rfl⟩, hall⟩ := hrel
            have HA := Lib.hid hall
            clear hall
            have hbd := sum_bound44 (costs fs k) HG.out.costs j
            rw [← hS] at hbd
            by_cases hjl : j < k.length
            · obtain ⟨nx, hnx, hnl⟩ : ∃ nx, (j + 1) % k.length = nx ∧ nx < k.length := ⟨_, rfl, Nat.mod_lt _ hk0⟩
              obtain ⟨d0, _, d2, d3⟩ := HC.out j hjl
              obtain ⟨e0, e1, _, _⟩ := HC.out nx hnl
              have hq1 := HG.out.lt j hjl
              have hq2 := HG.out.lt nx hnl
              have hst := sum_take_succ (costs fs k) j (by simp [costs]; exact hjl)
              rw [costs_get fs k j hjl, ← hS] at hst
              have hc0 := HG.out.c0 j hjl
              have hc1 := HG.out.c1 j hjl
              obtain ⟨P, HP⟩ : ∃ P : Prop, Hid (P ↔ (fs.getD (k.getD j 0) zeroF).y = (fs.getD (k.getD ((j + 1) % k.length) 0) zeroF).x) := ⟨_, Lib.hid Iff.rfl⟩
              have heq0 : ((fs.getD (k.getD j 0) zeroF).y = (fs.getD (k.getD nx 0) zeroF).x) ↔ P := by rw [HP.out, hnx]
              generalize k.getD j 0 = q1 at d0 d2 d3 hq1 hst hc0 hc1 heq0
              generalize k.getD nx 0 = q3 at e0 e1 hq2 heq0
              generalize (fs.getD q1 zeroF).y = Y at d2 heq0
              generalize (fs.getD q3 zeroF).x = X at e1 heq0
              generalize (fs.getD q1 zeroF).c = C at d3 hst hc0 hc1
              have HEQ := Lib.hid heq0
              clear heq0
              have hq1' : (q1 : Int) < (fs.length : Int) := by omega
              have hq2' : (q3 : Int) < (fs.length : Int) := by omega
              have hjj : (j : Int) < (k.length : Int) := by omega
              have hww : IntKind.i64.wrap (S + C) = S + C := IntWalk.i64_in _ (by omega)
              have hwl : IntKind.i64.wrap ((k.length : Int) - 1) = (k.length : Int) - 1 := IntWalk.i64_in _ (by omega)
              by_cases hla : j < k.length - 1
              · have hla1 : (j : Int) < (k.length : Int) - 1 := by omega
                obtain rfl : nx = j + 1 := by rw [← hnx, Nat.mod_eq_of_lt (by omega)]
                have hwj : IntKind.i64.wrap ((j : Int) + 1) = (j : Int) + 1 := IntWalk.i64_in _ (by omega)
                have hnn : ((j : Int) + 1) < (k.length : Int) := by omega
                by_cases heq : Y = X
                · have v1 : (Y != X) = false := by simpa using heq
                  have v2 : (Y == X) = true := by simpa using heq
                  have HQ := Lib.hid (HP.out.1 (HEQ.out.1 heq))
                  have HS2 := Lib.hid hst
                  clear heq hst hS
                  go_wp2
                  go_quiet (fail)
                  go_wp2
                  go_roundw
                  case rel =>
                    refine ⟨j + 1, S + C, by omega, by go_num, by first | rfl | (congr 1), HS2.out.symm, ⟨_, rfl⟩, fun i hi => ?_⟩
                    by_cases hij : i < j
                    · exact HA.out i hij
                    · obtain rfl : i = j := by omega
                      exact HQ.out
                  case measure => simp [intOf]; omega
                · have v1 : (Y != X) = true := by simpa using heq
                  have v2 : (Y == X) = false := by simpa using heq
                  have HN : Hid (¬ CircleP (natInts k) fs) := Lib.hid (fun h => heq (HEQ.out.2 (HP.out.2 ((HI.out.1 h.2).1 j hjl))))
                  clear heq hst hS
                  go_wp2
                  go_quiet (fail)
                  go_wp2
                  go_ret
                  exact ⟨false, rfl, ⟨fun h => (by cases h), fun h => absurd h HN.out⟩, below_drewN (below_drewN (Below.refl _ _) _) _⟩
              · have hla1 : ¬ (j : Int) < (k.length : Int) - 1 := by omega
                obtain rfl : nx = 0 := by rw [← hnx, show j + 1 = k.length by omega, Nat.mod_self]
                rw [Nat.add_zero] at e0
                have hnn : (0 : Int) < (k.length : Int) := by omega
                by_cases heq : Y = X
                · have v1 : (Y != X) = false := by simpa using heq
                  have v2 : (Y == X) = true := by simpa using heq
                  have HQ := Lib.hid (HP.out.1 (HEQ.out.1 heq))
                  have HS2 := Lib.hid hst
                  clear heq hst hS
                  go_wp2
                  go_quiet (fail)
                  go_wp2
                  go_roundw
                  case rel =>
                    refine ⟨j + 1, S + C, by omega, by go_num, by first | rfl | (congr 1), HS2.out.symm, ⟨_, rfl⟩, fun i hi => ?_⟩
                    by_cases hij : i < j
                    · exact HA.out i hij
                    · obtain rfl : i = j := by omega
                      exact HQ.out
                  case measure => simp [intOf]; omega
                · have v1 : (Y != X) = true := by simpa using heq
                  have v2 : (Y == X) = false := by simpa using heq
                  have HN : Hid (¬ CircleP (natInts k) fs) := Lib.hid (fun h => heq (HEQ.out.2 (HP.out.2 ((HI.out.1 h.2).1 j hjl))))
                  clear heq hst hS
                  go_wp2
                  go_quiet (fail)
                  go_wp2
                  go_ret
                  exact ⟨false, rfl, ⟨fun h => (by cases h), fun h => absurd h HN.out⟩, below_drewN (below_drewN (Below.refl _ _) _) _⟩
            · have hje : j = k.length := by omega
              subst hje
              rw [List.take_of_length_le (by simp [costs])] at hS
              have HS := Lib.hid (show decide (S < 0) = decide ((costs fs k).sum < 0) by rw [hS])
              clear hS
              go_wp2
              go_ret
              refine ⟨_, rfl, ?_, below_drewN (Below.refl _ _) _⟩
              rw [HS.out]
              simp only [decide_eq_true_eq]
              exact ⟨fun h => ⟨by rw [natInts_len]; omega, HI.out.2 ⟨HA.out, h⟩⟩, fun h => (HI.out.1 h.2).2⟩

end Go.Proofs.Ytooogmppfjgdpaa
