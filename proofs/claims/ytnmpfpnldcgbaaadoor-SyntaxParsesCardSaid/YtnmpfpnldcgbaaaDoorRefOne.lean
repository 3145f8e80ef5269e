/- The contract of lychgateref01.one: the document's token at a place that is no blank is that of the plain account, or its fault; nothing that was in memory is changed. -/
import Derived.Test.YtnmpfpnldcgbaaaDoorRefKey
import Derived.Test.YtnmpfpnldcgbaaaDoorFirst
namespace Go.Proofs.YtnmpfpnldcgbaaaDoor
open Go.RowKit

set_option maxRecDepth 100000 in
set_option maxHeartbeats 1000000 in
theorem one_word (s : ByteArray) (k : Nat) (w : World) (hs : s.size ≤ maxLen) (hk : k < s.size) (hl : isLI (s[k].toNat : Int) = true) :
    Calls Tryd.prog 53 #[.string s, .int .i64 k] w fun e w' => e = resR (wordTok s k) ∧ Below w.heap.size w w' := by
  have hs' := hs
  unfold maxLen at hs'
  have hge := endOf_ge isWI s k
  have hle := endOf_le isWI s k (by omega)
  generalize hE : endOf isWI s k = E at *
  have HE := Lib.hid hE
  clear hE
  have HW13 := Lib.hid (show 16 < E - k → wordTok s k = .error 13 from fun h => by unfold wordTok; rw [HE.out, if_pos h])
  have HW1 := Lib.hid (show ¬ 16 < E - k → isKeyB (s.extract k E) = false → wordTok s k = .ok ⟨1, s.extract k E, 0, k⟩ from fun h h2 => by unfold wordTok; rw [HE.out, if_neg h, if_neg (by simp [h2])])
  have HW2 := Lib.hid (show ¬ 16 < E - k → isKeyB (s.extract k E) = true → wordTok s k = .ok ⟨2, s.extract k E, 0, k⟩ from fun h h2 => by unfold wordTok; rw [HE.out, if_neg h, if_pos h2])
  go_enter Tryd.func53, Tryd.ntmps53
  go_wp2_with (first
    | (go_at_call 72; refine (letter_any _ _).mono ?_; rintro e w' ⟨rfl, rfl⟩)
    | (go_at_call 73; refine (digit_any _ _).mono ?_; rintro e w' ⟨rfl, rfl⟩))
  go_loop [7] (fun i => ∃ j : Nat, k ≤ j ∧ j ≤ s.size ∧ i = .int .i64 j ∧ endOf isWI s j = E) (fun i => s.size - (intOf i).toNat)
  case atStart => exact ⟨k, by omega, by omega, rfl, HE.out⟩
  case round =>
    obtain ⟨j, hkj, hj, rfl, hr⟩ := hrel
    have HR := Lib.hid hr
    clear hr
    by_cases hlt : j < s.size
    · cases h1 : isLI (s[j].toNat : Int)
      · cases h2 : isDI (s[j].toNat : Int)
        · have hw : isWI (s[j].toNat : Int) = false := by unfold isWI; rw [h1, h2]; rfl
          obtain rfl : E = j := HR.out.symm.trans (endOf_stop hlt hw)
          clear hw
          go_wp2_with (first
            | (go_at_call 72; refine (letter_any _ _).mono ?_; rintro e w' ⟨rfl, rfl⟩)
            | (go_at_call 73; refine (digit_any _ _).mono ?_; rintro e w' ⟨rfl, rfl⟩))
          all_goals
            first
            | (have hgt : 16 < E - k := by omega
               rw [HW13.out hgt]
               exact bodyPost_ret (v := .tuple #[tokV zeroTok, .int .i64 13]) (by simp [results, Tryd.results53, go_sem, tokV, zeroTok]) rfl ⟨rfl, by go_grown⟩)
            | (refine (refIsKey_any _ _).mono ?_
               rintro e w' ⟨rfl, rfl⟩
               cases hkey : isKeyB (s.extract k E)
               · have HR1 := Lib.hid (HW1.out (by omega) hkey)
                 go_wp2
                 rw [HR1.out]
                 exact bodyPost_ret (v := .tuple #[tokV ⟨1, s.extract k E, 0, k⟩, .int .i64 0]) (by simp [results, Tryd.results53, go_sem, tokV]) rfl ⟨rfl, by go_grown⟩
               · have HR1 := Lib.hid (HW2.out (by omega) hkey)
                 go_wp2
                 rw [HR1.out]
                 exact bodyPost_ret (v := .tuple #[tokV ⟨2, s.extract k E, 0, k⟩, .int .i64 0]) (by simp [results, Tryd.results53, go_sem, tokV]) rfl ⟨rfl, by go_grown⟩)
        · have hw : isWI (s[j].toNat : Int) = true := by unfold isWI; rw [h1, h2]; rfl
          have HN := Lib.hid ((endOf_step hlt hw).symm.trans HR.out)
          go_wp2_with (first
            | (go_at_call 72; refine (letter_any _ _).mono ?_; rintro e w' ⟨rfl, rfl⟩)
            | (go_at_call 73; refine (digit_any _ _).mono ?_; rintro e w' ⟨rfl, rfl⟩))
          go_round
          case rel => exact ⟨j + 1, by omega, by omega, by go_num, HN.out⟩
          case measure => simp [intOf]; omega
      · have hw : isWI (s[j].toNat : Int) = true := by unfold isWI; rw [h1]; rfl
        have HN := Lib.hid ((endOf_step hlt hw).symm.trans HR.out)
        go_wp2_with (first
          | (go_at_call 72; refine (letter_any _ _).mono ?_; rintro e w' ⟨rfl, rfl⟩)
          | (go_at_call 73; refine (digit_any _ _).mono ?_; rintro e w' ⟨rfl, rfl⟩))
        go_round
        case rel => exact ⟨j + 1, by omega, by omega, by go_num, HN.out⟩
        case measure => simp [intOf]; omega
    · obtain rfl : E = j := HR.out.symm.trans (endOf_all (by omega))
      go_wp2_with fail
      all_goals
        first
        | (have hgt : 16 < E - k := by omega
           rw [HW13.out hgt]
           exact bodyPost_ret (v := .tuple #[tokV zeroTok, .int .i64 13]) (by simp [results, Tryd.results53, go_sem, tokV, zeroTok]) rfl ⟨rfl, by go_grown⟩)
        | (refine (refIsKey_any _ _).mono ?_
           rintro e w' ⟨rfl, rfl⟩
           cases hkey : isKeyB (s.extract k E)
           · have HR1 := Lib.hid (HW1.out (by omega) hkey)
             go_wp2
             rw [HR1.out]
             exact bodyPost_ret (v := .tuple #[tokV ⟨1, s.extract k E, 0, k⟩, .int .i64 0]) (by simp [results, Tryd.results53, go_sem, tokV]) rfl ⟨rfl, by go_grown⟩
           · have HR1 := Lib.hid (HW2.out (by omega) hkey)
             go_wp2
             rw [HR1.out]
             exact bodyPost_ret (v := .tuple #[tokV ⟨2, s.extract k E, 0, k⟩, .int .i64 0]) (by simp [results, Tryd.results53, go_sem, tokV]) rfl ⟨rfl, by go_grown⟩)

/- What the document's loop over digits has come to behind d of them: the number, or that it is too great. -/
def NumSt (s : ByteArray) (k d : Nat) (N : Nat) (g : Bool) : Prop :=
  (g = false ∧ N = numTo s k d ∧ N ≤ 1099511627776) ∨ (g = true ∧ 1099511627776 < numTo s k d ∧ 1099511627776 < N ∧ N ≤ 10995116277769)

theorem numSt_step {s : ByteArray} {k d N : Nat} {c : Nat} (h : NumSt s k d N false) (hc : (bat s (k + d)).toNat = c) (h1 : 48 ≤ c) (h2 : c ≤ 57) :
    (1099511627776 < N * 10 + (c - 48) → NumSt s k (d + 1) (N * 10 + (c - 48)) true) ∧ (¬ 1099511627776 < N * 10 + (c - 48) → NumSt s k (d + 1) (N * 10 + (c - 48)) false) := by
  rcases h with ⟨_, h3, h4⟩ | ⟨h3, _⟩
  · have e : numTo s k (d + 1) = N * 10 + (c - 48) := by rw [numTo, ← h3, hc]
    constructor
    · intro hg
      exact .inr ⟨rfl, by rw [e]; exact hg, hg, by omega⟩
    · intro hg
      exact .inl ⟨rfl, e.symm, by omega⟩
  · cases h3

theorem numSt_great {s : ByteArray} {k d N : Nat} (h : NumSt s k d N true) : NumSt s k (d + 1) N true := by
  rcases h with ⟨h3, _⟩ | ⟨_, h3, h4, h5⟩
  · cases h3
  · refine .inr ⟨rfl, ?_, h4, h5⟩
    have := numTo_mono s k d 1
    omega

theorem numSt_bounds {s : ByteArray} {k d N : Nat} {g : Bool} (h : NumSt s k d N g) : N ≤ 10995116277769 ∧ (g = false → N ≤ 1099511627776) ∧ (g = true → 1099511627776 < N) := by
  rcases h with ⟨rfl, _, h⟩ | ⟨rfl, _, h, h'⟩
  · exact ⟨by omega, fun _ => h, (fun h => by cases h)⟩
  · exact ⟨h', (fun h => by cases h), fun _ => h⟩

theorem num_bad {s : ByteArray} {k d N E : Nat} {g : Bool} (hE : endOf isDI s k = E) (hd : k + d = E) (h : NumSt s k d N g) (hg : g = true ∨ badForm s k = true) : numTok s k = .error 12 := by
  unfold numTok
  rw [if_pos]
  rcases hg with hg | hg
  · right
    rw [hE, show E - k = d by omega]
    rcases h with ⟨h3, _⟩ | ⟨_, h3, _⟩
    · rw [hg] at h3; cases h3
    · exact h3
  · left; exact hg

theorem num_good {s : ByteArray} {k d N E : Nat} (hE : endOf isDI s k = E) (hd : k + d = E) (h : NumSt s k d N false) (hg : badForm s k = false) : numTok s k = .ok ⟨3, s.extract k E, N, k⟩ := by
  rcases h with ⟨_, h3, h4⟩ | ⟨h3, _⟩
  · rw [numTok_ok hg hE hd (by rw [← h3]; exact h4), ← h3]
  · cases h3

theorem zero_int (b : UInt8) : ((b.toNat : Int) == 48) = (b == 48) := byte_int b 48 (by omega)

set_option maxRecDepth 100000 in
set_option maxHeartbeats 2000000 in
theorem one_number (s : ByteArray) (k : Nat) (w : World) (hs : s.size ≤ maxLen) (hk : k < s.size) (hl : isLI (s[k].toNat : Int) = false) (hdg : isDI (s[k].toNat : Int) = true) :
    Calls Tryd.prog 53 #[.string s, .int .i64 k] w fun e w' => e = resR (numTok s k) ∧ Below w.heap.size w w' := by
  have hs' := hs
  unfold maxLen at hs'
  have hge := endOf_ge isDI s k
  have hle := endOf_le isDI s k (by omega)
  have HBAD := Lib.hid (show badForm s k = (((s[k].toNat : Int) == 48 && decide (k + 1 < endOf isDI s k)) || (decide (endOf isDI s k < s.size) && isLI ((bat s (endOf isDI s k)).toNat : Int))) by unfold badForm; rw [bat_eq s k hk, zero_int])
  generalize hE : endOf isDI s k = E at *
  have HE := Lib.hid hE
  clear hE
  go_enter Tryd.func53, Tryd.ntmps53
  go_wp2_with (first
          | (go_at_call 72; refine (letter_any _ _).mono ?_; rintro e w' ⟨rfl, rfl⟩)
          | (go_at_call 73; refine (digit_any _ _).mono ?_; rintro e w' ⟨rfl, rfl⟩))
  go_loop [7, 13, 14] (fun i nv gv => ∃ (d N : Nat) (g : Bool), k + d ≤ s.size ∧ i = .int .i64 (k + d : Nat) ∧ nv = .int .i64 N ∧ gv = .bool g ∧ endOf isDI s (k + d) = E ∧ NumSt s k d N g) (fun i _ _ => s.size - (intOf i).toNat)
  case atStart => exact ⟨0, 0, false, by omega, by simp, rfl, rfl, HE.out, .inl ⟨rfl, rfl, by omega⟩⟩
  case round =>
    obtain ⟨d, N, g, hj, rfl, rfl, rfl, hr, hst⟩ := hrel
    have hbd := numSt_bounds hst
    have HR := Lib.hid hr
    have HST := Lib.hid hst
    have hN1 : (N : Int) ≤ 10995116277769 := by omega
    clear hr hst
    by_cases hlt : k + d < s.size
    · have hlt2 : (k : Int) + (d : Int) < (s.size : Int) := by omega
      cases h2 : isDI (s[k + d].toNat : Int)
      · obtain rfl : E = k + d := HR.out.symm.trans (endOf_stop hlt h2)
        have HBH := Lib.hid (show (decide (k + d < s.size) && isLI ((bat s (k + d)).toNat : Int)) = isLI (s[k + d].toNat : Int) by rw [bat_eq s _ hlt]; simp [hlt])
        cases g
        · cases h3 : isLI (s[k + d].toNat : Int)
          · cases h4 : ((s[k].toNat : Int) == 48)
            · have HO := Lib.hid (num_good HE.out rfl HST.out (by rw [HBAD.out, HBH.out, h3, h4]; rfl))
              go_wp2_with (first
                  | (go_at_call 72; refine (letter_any _ _).mono ?_; rintro e w' ⟨rfl, rfl⟩)
                  | (go_at_call 73; refine (digit_any _ _).mono ?_; rintro e w' ⟨rfl, rfl⟩))
              rw [HO.out]
              exact bodyPost_ret (v := .tuple #[tokV ⟨3, s.extract k (k + d), N, k⟩, .int .i64 0]) (by simp [results, Tryd.results53, go_sem, tokV]) rfl ⟨rfl, by go_grown⟩
            · by_cases h5 : k + 1 < k + d
              · have HO := Lib.hid (num_bad HE.out rfl HST.out (Or.inr (by rw [HBAD.out, h4]; simp [h5])))
                have h5' : (k : Int) + 1 < (k : Int) + (d : Int) := by omega
                go_wp2_with (first
                    | (go_at_call 72; refine (letter_any _ _).mono ?_; rintro e w' ⟨rfl, rfl⟩)
                    | (go_at_call 73; refine (digit_any _ _).mono ?_; rintro e w' ⟨rfl, rfl⟩))
                rw [HO.out]
                exact bodyPost_ret (v := .tuple #[tokV zeroTok, .int .i64 12]) (by simp [results, Tryd.results53, go_sem, tokV, zeroTok]) rfl ⟨rfl, by go_grown⟩
              · have HO := Lib.hid (num_good HE.out rfl HST.out (by rw [HBAD.out, HBH.out, h3, h4]; simp [h5]))
                have h5' : ¬ (k : Int) + 1 < (k : Int) + (d : Int) := by omega
                go_wp2_with (first
                    | (go_at_call 72; refine (letter_any _ _).mono ?_; rintro e w' ⟨rfl, rfl⟩)
                    | (go_at_call 73; refine (digit_any _ _).mono ?_; rintro e w' ⟨rfl, rfl⟩))
                rw [HO.out]
                exact bodyPost_ret (v := .tuple #[tokV ⟨3, s.extract k (k + d), N, k⟩, .int .i64 0]) (by simp [results, Tryd.results53, go_sem, tokV]) rfl ⟨rfl, by go_grown⟩
          · have HO := Lib.hid (num_bad HE.out rfl HST.out (Or.inr (by rw [HBAD.out, HBH.out, h3]; simp)))
            go_wp2_with (first
                | (go_at_call 72; refine (letter_any _ _).mono ?_; rintro e w' ⟨rfl, rfl⟩)
                | (go_at_call 73; refine (digit_any _ _).mono ?_; rintro e w' ⟨rfl, rfl⟩))
            rw [HO.out]
            exact bodyPost_ret (v := .tuple #[tokV zeroTok, .int .i64 12]) (by simp [results, Tryd.results53, go_sem, tokV, zeroTok]) rfl ⟨rfl, by go_grown⟩
        · have HO := Lib.hid (num_bad HE.out rfl HST.out (Or.inl rfl))
          go_wp2_with (first
              | (go_at_call 72; refine (letter_any _ _).mono ?_; rintro e w' ⟨rfl, rfl⟩)
              | (go_at_call 73; refine (digit_any _ _).mono ?_; rintro e w' ⟨rfl, rfl⟩))
          rw [HO.out]
          exact bodyPost_ret (v := .tuple #[tokV zeroTok, .int .i64 12]) (by simp [results, Tryd.results53, go_sem, tokV, zeroTok]) rfl ⟨rfl, by go_grown⟩
      · have HN := Lib.hid ((endOf_step hlt h2).symm.trans HR.out)
        have hdr := digit_range h2
        have hbc : (bat s (k + d)).toNat = s[k + d].toNat := by rw [bat_eq s _ hlt]
        have HBC := Lib.hid hbc
        clear hbc
        cases g
        · have hN2 : (N : Int) ≤ 1099511627776 := by have := hbd.2.1 rfl; omega
          have HSS := Lib.hid (numSt_step HST.out HBC.out (by omega) (by omega))
          by_cases hgr : 1099511627776 < (N : Int) * 10 + ((s[k + d].toNat : Int) - 48)
          · have HS2 := Lib.hid (HSS.out.1 (by omega))
            have HNV := Lib.hid (show ((N * 10 + (s[k + d].toNat - 48) : Nat) : Int) = (N : Int) * 10 + ((s[k + d].toNat : Int) - 48) by omega)
            clear hbd
            go_wp2_with (first
                | (go_at_call 72; refine (letter_any _ _).mono ?_; rintro e w' ⟨rfl, rfl⟩)
                | (go_at_call 73; refine (digit_any _ _).mono ?_; rintro e w' ⟨rfl, rfl⟩))
            go_round
            case rel => exact ⟨d + 1, N * 10 + (s[k + d].toNat - 48), true, by omega, by go_num, by rw [HNV.out], rfl, HN.out, HS2.out⟩
            case measure => simp [intOf]; omega
          · have HS2 := Lib.hid (HSS.out.2 (by omega))
            have HNV := Lib.hid (show ((N * 10 + (s[k + d].toNat - 48) : Nat) : Int) = (N : Int) * 10 + ((s[k + d].toNat : Int) - 48) by omega)
            clear hbd
            go_wp2_with (first
                | (go_at_call 72; refine (letter_any _ _).mono ?_; rintro e w' ⟨rfl, rfl⟩)
                | (go_at_call 73; refine (digit_any _ _).mono ?_; rintro e w' ⟨rfl, rfl⟩))
            go_round
            case rel => exact ⟨d + 1, N * 10 + (s[k + d].toNat - 48), false, by omega, by go_num, by rw [HNV.out], rfl, HN.out, HS2.out⟩
            case measure => simp [intOf]; omega
        · have hN2 : 1099511627776 < (N : Int) := by have := hbd.2.2 rfl; omega
          have hN3 : ¬ (N : Int) ≤ 1099511627776 := by omega
          have HS2 := Lib.hid (numSt_great HST.out)
          clear hbd
          go_wp2_with (first
              | (go_at_call 72; refine (letter_any _ _).mono ?_; rintro e w' ⟨rfl, rfl⟩)
              | (go_at_call 73; refine (digit_any _ _).mono ?_; rintro e w' ⟨rfl, rfl⟩))
          go_round
          case rel => exact ⟨d + 1, N, true, by omega, by go_num, rfl, rfl, HN.out, HS2.out⟩
          case measure => simp [intOf]; omega
    · obtain rfl : E = k + d := HR.out.symm.trans (endOf_all (by omega))
      have hlt2 : ¬ (k : Int) + (d : Int) < (s.size : Int) := by omega
      have HBH := Lib.hid (show (decide (k + d < s.size) && isLI ((bat s (k + d)).toNat : Int)) = false by simp [hlt])
      cases g
      · cases h4 : ((s[k].toNat : Int) == 48)
        · have HO := Lib.hid (num_good HE.out rfl HST.out (by rw [HBAD.out, HBH.out, h4]; rfl))
          go_wp2_with (first
              | (go_at_call 72; refine (letter_any _ _).mono ?_; rintro e w' ⟨rfl, rfl⟩)
              | (go_at_call 73; refine (digit_any _ _).mono ?_; rintro e w' ⟨rfl, rfl⟩))
          rw [HO.out]
          exact bodyPost_ret (v := .tuple #[tokV ⟨3, s.extract k (k + d), N, k⟩, .int .i64 0]) (by simp [results, Tryd.results53, go_sem, tokV]) rfl ⟨rfl, by go_grown⟩
        · by_cases h5 : k + 1 < k + d
          · have HO := Lib.hid (num_bad HE.out rfl HST.out (Or.inr (by rw [HBAD.out, h4]; simp [h5])))
            have h5' : (k : Int) + 1 < (k : Int) + (d : Int) := by omega
            go_wp2_with (first
                | (go_at_call 72; refine (letter_any _ _).mono ?_; rintro e w' ⟨rfl, rfl⟩)
                | (go_at_call 73; refine (digit_any _ _).mono ?_; rintro e w' ⟨rfl, rfl⟩))
            rw [HO.out]
            exact bodyPost_ret (v := .tuple #[tokV zeroTok, .int .i64 12]) (by simp [results, Tryd.results53, go_sem, tokV, zeroTok]) rfl ⟨rfl, by go_grown⟩
          · have HO := Lib.hid (num_good HE.out rfl HST.out (by rw [HBAD.out, HBH.out, h4]; simp [h5]))
            have h5' : ¬ (k : Int) + 1 < (k : Int) + (d : Int) := by omega
            go_wp2_with (first
                | (go_at_call 72; refine (letter_any _ _).mono ?_; rintro e w' ⟨rfl, rfl⟩)
                | (go_at_call 73; refine (digit_any _ _).mono ?_; rintro e w' ⟨rfl, rfl⟩))
            rw [HO.out]
            exact bodyPost_ret (v := .tuple #[tokV ⟨3, s.extract k (k + d), N, k⟩, .int .i64 0]) (by simp [results, Tryd.results53, go_sem, tokV]) rfl ⟨rfl, by go_grown⟩
      · have HO := Lib.hid (num_bad HE.out rfl HST.out (Or.inl rfl))
        go_wp2_with (first
            | (go_at_call 72; refine (letter_any _ _).mono ?_; rintro e w' ⟨rfl, rfl⟩)
            | (go_at_call 73; refine (digit_any _ _).mono ?_; rintro e w' ⟨rfl, rfl⟩))
        rw [HO.out]
        exact bodyPost_ret (v := .tuple #[tokV zeroTok, .int .i64 12]) (by simp [results, Tryd.results53, go_sem, tokV, zeroTok]) rfl ⟨rfl, by go_grown⟩

theorem sign_none {s : ByteArray} {k : Nat} (h : signN s k = 0) : signTok s k = .error 11 := by
  rw [signL_eq]
  unfold signN at h
  unfold signL
  rw [← bat_drop0]
  split at h
  · cases h
  · split at h
    · cases h
    · rename_i h1 h2
      rw [if_neg h1, if_neg h2]
      rfl

theorem sign_some {s : ByteArray} {k n : Nat} (hk : k < s.size) (h : signN s k = n) (hn : n ≠ 0) : signTok s k = .ok ⟨4, s.extract k (k + n), 0, k⟩ ∧ k + n ≤ s.size := by
  rw [signL_eq]
  unfold signN at h
  unfold signL
  rw [← bat_drop0]
  split at h
  · rename_i h1
    rw [if_pos h1]
    subst h
    refine ⟨rfl, ?_⟩
    unfold isPair at h1
    simp only [Bool.or_eq_true, beq_iff_eq] at h1
    have hl : ((s.data.toList.drop k).take 2).length = 2 := by rcases h1 with (h | h) | h <;> rw [h] <;> rfl
    rw [List.length_take, drop_len] at hl
    omega
  · split at h
    · rename_i h1 h2
      rw [if_neg h1, if_pos h2]
      subst h
      exact ⟨rfl, by omega⟩
    · exact absurd h.symm hn

set_option maxRecDepth 100000 in
set_option maxHeartbeats 1000000 in
theorem one_sign (s : ByteArray) (k : Nat) (w : World) (hs : s.size ≤ maxLen) (hk : k < s.size) (hl : isLI (s[k].toNat : Int) = false) (hdg : isDI (s[k].toNat : Int) = false) :
    Calls Tryd.prog 53 #[.string s, .int .i64 k] w fun e w' => e = resR (signTok s k) ∧ Below w.heap.size w w' := by
  have hs' := hs
  unfold maxLen at hs'
  generalize hn : signN s k = n
  have HN := Lib.hid hn
  clear hn
  by_cases h0 : n = 0
  · subst h0
    have HO := Lib.hid (sign_none HN.out)
    go_enter Tryd.func53, Tryd.ntmps53
    go_wp2_with (first
    | (go_at_call 72; refine (letter_any _ _).mono ?_; rintro e w' ⟨rfl, rfl⟩)
    | (go_at_call 73; refine (digit_any _ _).mono ?_; rintro e w' ⟨rfl, rfl⟩)
    | (go_at_call 75; refine (refSign_any s k _ hs hk).mono ?_; rintro e w' ⟨rfl, rfl⟩; rw [HN.out]))
    rw [HO.out]
    exact bodyPost_ret (v := .tuple #[tokV zeroTok, .int .i64 11]) (by simp [results, Tryd.results53, go_sem, tokV, zeroTok]) rfl ⟨rfl, by go_grown⟩
  · obtain ⟨ho, hle⟩ := sign_some hk HN.out h0
    have HO := Lib.hid ho
    have h0' : ((n : Int) == 0) = false := beq_eq_false_iff_ne.2 (by omega)
    clear ho
    go_enter Tryd.func53, Tryd.ntmps53
    go_wp2_with (first
    | (go_at_call 72; refine (letter_any _ _).mono ?_; rintro e w' ⟨rfl, rfl⟩)
    | (go_at_call 73; refine (digit_any _ _).mono ?_; rintro e w' ⟨rfl, rfl⟩)
    | (go_at_call 75; refine (refSign_any s k _ hs hk).mono ?_; rintro e w' ⟨rfl, rfl⟩; rw [HN.out]))
    rw [HO.out]
    exact bodyPost_ret (v := .tuple #[tokV ⟨4, s.extract k (k + n), 0, k⟩, .int .i64 0]) (by simp [results, Tryd.results53, go_sem, tokV]) rfl ⟨rfl, by go_grown⟩

theorem one_any (s : ByteArray) (k : Nat) (w : World) (hs : s.size ≤ maxLen) (hk : k < s.size) :
    Calls Tryd.prog 53 #[.string s, .int .i64 k] w fun e w' => e = resR (tokAt s k) ∧ Below w.heap.size w w' := by
  unfold tokAt
  rw [bat_eq s k hk]
  cases hl : isLI (s[k].toNat : Int)
  · cases hd : isDI (s[k].toNat : Int)
    · simp only [Bool.false_eq_true, if_false]
      exact one_sign s k w hs hk hl hd
    · simp only [Bool.false_eq_true, if_false, if_true]
      exact one_number s k w hs hk hl hd
  · simp only [if_true]
    exact one_word s k w hs hk hl

end Go.Proofs.YtnmpfpnldcgbaaaDoor
