/- The contract of lex.numberAt: the token of the number at a place, or ErrNumber; nothing that was in memory is changed. -/
import Derived.Test.YtflhniiemmahmaaDoorSign
namespace Go.Proofs.YtflhniiemmahmaaDoor
open Go.RowKit

/- What the first n digits from place k on say. -/
def numTo (s : ByteArray) (k : Nat) : Nat → Nat
  | 0 => 0
  | n + 1 => numTo s k n * 10 + ((bat s (k + n)).toNat - 48)

theorem numTo_mono (s : ByteArray) (k n m : Nat) : numTo s k n ≤ numTo s k (n + m) := by
  induction m with
  | zero => exact Nat.le_refl _
  | succ m ih =>
    rw [← Nat.add_assoc, numTo]
    omega

def badForm (s : ByteArray) (k : Nat) : Bool :=
  (bat s k == 48 && decide (k + 1 < endOf isDI s k)) || (decide (endOf isDI s k < s.size) && isLI ((bat s (endOf isDI s k)).toNat : Int))

def numTok (s : ByteArray) (k : Nat) : Except Int Tok :=
  if badForm s k = true ∨ 1099511627776 < numTo s k (endOf isDI s k - k) then .error 12
  else .ok ⟨3, s.extract k (endOf isDI s k), numTo s k (endOf isDI s k - k), k⟩

theorem endOf_mem {p : Int → Bool} {s : ByteArray} {k : Nat} : ∀ i, k ≤ i → i < endOf p s k → (h : i < s.size) → p (s[i].toNat : Int) = true := by
  intro i hki hi h
  obtain ⟨d, rfl⟩ := Nat.exists_eq_add_of_le hki
  induction d generalizing k with
  | zero =>
    rcases Bool.eq_false_or_eq_true (p ((s[k]'h).toNat : Int)) with hp | hp
    · exact hp
    · have := endOf_stop (p := p) (s := s) (k := k) (by omega) hp
      omega
  | succ d ih =>
    cases hp : p ((s[k]'(by omega)).toNat : Int)
    · have := endOf_stop (p := p) (s := s) (k := k) (by omega) hp
      omega
    · have := endOf_step (p := p) (s := s) (k := k) (by omega) hp
      have h2 := ih (k := k + 1) (by omega) (by rw [this] at hi; omega) (by omega)
      have e : k + 1 + d = k + (d + 1) := by omega
      simp only [e] at h2
      exact h2

theorem digit_range {n : Int} (h : isDI n = true) : 48 ≤ n ∧ n ≤ 57 := by unfold isDI at h; simpa using h

set_option maxHeartbeats 400000 in
theorem numberAt_bad (s : ByteArray) (k : Nat) (w : World) (hs : s.size ≤ maxLen) (hk : k < s.size) (hb : badForm s k = true) :
    Calls Tryd.prog 42 #[.string s, .int .i64 k] w fun e w' => e = errR 12 ∧ Below w.heap.size w w' := by
  have hs' := hs
  unfold maxLen at hs'
  have hge := endOf_ge isDI s k
  have hle := endOf_le isDI s k (by omega)
  unfold badForm at hb
  rw [bat_eq s k hk] at hb
  generalize hE : endOf isDI s k = E at *
  have HE := Lib.hid hE
  clear hE
  have hz : ((s[k].toNat : Int) == 48) = (s[k] == 48) := by
    rw [Bool.eq_iff_iff]
    simp only [beq_iff_eq, ← UInt8.toNat_inj]
    have : (48 : UInt8).toNat = 48 := rfl
    omega
  have HZ := Lib.hid hz
  clear hz
  by_cases hA : ((s[k].toNat : Int) == 48) = true ∧ k + 1 < E
  · obtain ⟨h1, h2⟩ := hA
    have h3 : (k : Int) + 1 < (E : Int) := by omega
    clear hb
    go_enter Tryd.func42, Tryd.ntmps42
    go_wp2_with (go_at_call 25; refine (runEnd_digit _ _ _ hs (by omega) (by omega)).mono ?_; rintro e w' ⟨rfl, rfl⟩; rw [Int.toNat_natCast, HE.out])
    exact bodyPost_ret (v := .tuple #[tokV zeroTok, .int .i64 12]) (by simp [results, Tryd.results42, go_sem, tokV, zeroTok]) rfl ⟨rfl, by go_grown⟩
  · have hB : E < s.size ∧ isLI ((bat s E).toNat : Int) = true := by
      rw [← HZ.out] at hb
      cases h1 : ((s[k].toNat : Int) == 48)
      · simpa [h1] using hb
      · have : ¬ k + 1 < E := fun h => hA ⟨h1, h⟩
        simpa [h1, this] using hb
    obtain ⟨h1, h2⟩ := hB
    rw [bat_eq s E h1] at h2
    clear hb
    cases h4 : ((s[k].toNat : Int) == 48)
    · clear hA
      go_enter Tryd.func42, Tryd.ntmps42
      go_wp2_with (first
        | (go_at_call 25; refine (runEnd_digit _ _ _ hs (by omega) (by omega)).mono ?_; rintro e w' ⟨rfl, rfl⟩; rw [Int.toNat_natCast, HE.out])
        | (go_at_call 39; refine (beginsWord_any _ _).mono ?_; rintro e w' ⟨rfl, rfl⟩))
      exact bodyPost_ret (v := .tuple #[tokV zeroTok, .int .i64 12]) (by simp [results, Tryd.results42, go_sem, tokV, zeroTok]) rfl ⟨rfl, by go_grown⟩
    · have h5 : ¬ (k : Int) + 1 < (E : Int) := fun h => hA ⟨h4, by omega⟩
      clear hA
      go_enter Tryd.func42, Tryd.ntmps42
      go_wp2_with (first
        | (go_at_call 25; refine (runEnd_digit _ _ _ hs (by omega) (by omega)).mono ?_; rintro e w' ⟨rfl, rfl⟩; rw [Int.toNat_natCast, HE.out])
        | (go_at_call 39; refine (beginsWord_any _ _).mono ?_; rintro e w' ⟨rfl, rfl⟩))
      exact bodyPost_ret (v := .tuple #[tokV zeroTok, .int .i64 12]) (by simp [results, Tryd.results42, go_sem, tokV, zeroTok]) rfl ⟨rfl, by go_grown⟩

def NumPost (s : ByteArray) (k : Nat) (w : World) (e : Ending) (w' : World) : Prop := e = resR (numTok s k) ∧ Below w.heap.size w w'

theorem numTok_great {s : ByteArray} {k d : Nat} (hd : k + d ≤ endOf isDI s k) (h : 1099511627776 < numTo s k d) : numTok s k = .error 12 := by
  unfold numTok
  rw [if_pos]
  right
  have := numTo_mono s k d (endOf isDI s k - k - d)
  rw [show d + (endOf isDI s k - k - d) = endOf isDI s k - k by omega] at this
  omega

theorem numTok_ok {s : ByteArray} {k d E : Nat} (hb : badForm s k = false) (hE : endOf isDI s k = E) (hd : k + d = E) (h : numTo s k d ≤ 1099511627776) : numTok s k = .ok ⟨3, s.extract k E, numTo s k d, k⟩ := by
  unfold numTok
  have e : E - k = d := by omega
  rw [hE, e, if_neg]
  rw [hb]
  simp
  omega

set_option maxHeartbeats 1000000 in
theorem numberAt_good (s : ByteArray) (k : Nat) (w : World) (hs : s.size ≤ maxLen) (hk : k < s.size) (hb : badForm s k = false) :
    Calls Tryd.prog 42 #[.string s, .int .i64 k] w fun e w' => NumPost s k w e w' := by
  have HB := Lib.hid hb
  have hs' := hs
  unfold maxLen at hs'
  have hge := endOf_ge isDI s k
  have hle := endOf_le isDI s k (by omega)
  have hmem := fun i => endOf_mem (p := isDI) (s := s) (k := k) i
  unfold badForm at hb
  rw [bat_eq s k hk] at hb
  generalize hE : endOf isDI s k = E at *
  have HE := Lib.hid hE
  have HM := Lib.hid hmem
  clear hE hmem
  have hz : ((s[k].toNat : Int) == 48) = (s[k] == 48) := by
    rw [Bool.eq_iff_iff]
    simp only [beq_iff_eq, ← UInt8.toNat_inj]
    have : (48 : UInt8).toNat = 48 := rfl
    omega
  rw [← hz] at hb
  have HZ := Lib.hid hz
  clear hz
  have hA : ((s[k].toNat : Int) == 48) = true → ¬ k + 1 < E := by
    intro h1 h2
    rw [h1] at hb
    simp [h2] at hb
  have hB : ∀ h : E < s.size, isLI (s[E].toNat : Int) = false := by
    intro h
    rw [← bat_eq s E h]
    cases h3 : isLI ((bat s E).toNat : Int)
    · rfl
    · rw [h3] at hb; simp [h] at hb
  clear hb
  cases h4 : ((s[k].toNat : Int) == 48) <;> by_cases h6 : E < s.size
  all_goals
    first
    | (have h7 := hB h6)
    | (have h7 : ¬ (E : Int) < (s.size : Int) := by omega)
    first
    | (have h5 : ¬ (k : Int) + 1 < (E : Int) := by have := hA h4; omega)
    | skip
    clear hA hB
    go_enter Tryd.func42, Tryd.ntmps42
    go_wp2_with (first
      | (go_at_call 25; refine (runEnd_digit _ _ _ hs (by omega) (by omega)).mono ?_; rintro e w' ⟨rfl, rfl⟩; rw [Int.toNat_natCast, HE.out])
      | (go_at_call 39; refine (beginsWord_any _ _).mono ?_; rintro e w' ⟨rfl, rfl⟩))
    go_loop [7, 8] (fun n i => ∃ d : Nat, k + d ≤ E ∧ i = .int .i64 (k + d : Nat) ∧ n = .int .i64 (numTo s k d) ∧ numTo s k d ≤ 1099511627776) (fun _ i => E - (intOf i).toNat)
    case atStart => exact ⟨0, by omega, by simp, rfl, by simp [numTo]⟩
    case round =>
      obtain ⟨d, hd, rfl, rfl, hM⟩ := hrel
      clear h4 h7
      by_cases hlt : k + d < E
      · have hdl : k + d < s.size := by omega
        have hdig := digit_range (HM.out (k + d) (by omega) hlt hdl)
        have hnx : numTo s k (d + 1) = numTo s k d * 10 + (s[k + d].toNat - 48) := by rw [numTo, bat_eq s _ hdl]
        have HN := Lib.hid hnx
        clear hnx
        by_cases hgr : 1099511627776 < numTo s k (d + 1)
        · have HG := Lib.hid (numTok_great (s := s) (k := k) (d := d + 1) (by rw [HE.out]; omega) hgr)
          have hgr' : 1099511627776 < (numTo s k d : Int) * 10 + ((s[k + d].toNat : Int) - 48) := by rw [HN.out] at hgr; omega
          clear hgr HN
          generalize hN : numTo s k d = N at *
          generalize hc : (s[k + d].toNat) = c at *
          go_wp2
          unfold NumPost
          rw [HG.out]
          exact bodyPost_ret (v := .tuple #[tokV zeroTok, .int .i64 12]) (by simp [results, Tryd.results42, go_sem, tokV, zeroTok]) rfl ⟨rfl, by go_grown⟩
        · have hgr' : ¬ 1099511627776 < (numTo s k d : Int) * 10 + ((s[k + d].toNat : Int) - 48) := by rw [HN.out] at hgr; omega
          have HV := Lib.hid (show ((numTo s k (d + 1) : Nat) : Int) = (numTo s k d : Int) * 10 + ((s[k + d].toNat : Int) - 48) by rw [HN.out]; omega)
          have HL := Lib.hid (show numTo s k (d + 1) ≤ 1099511627776 by omega)
          clear hgr HN
          generalize hN : numTo s k d = N at *
          generalize hc : (s[k + d].toNat) = c at *
          go_wp2
          go_round
          case rel => exact ⟨d + 1, by omega, by go_num, by rw [HV.out], HL.out⟩
          case measure => simp [intOf]; omega
      · have HO := Lib.hid (numTok_ok HB.out HE.out (show k + d = E by omega) hM)
        generalize hN : numTo s k d = N at *
        go_wp2
        unfold NumPost
        rw [HO.out]
        exact bodyPost_ret (v := .tuple #[tokV ⟨3, s.extract k E, N, k⟩, .int .i64 0]) (by simp [results, Tryd.results42, go_sem, tokV]) rfl ⟨rfl, by go_grown⟩

theorem numberAt_any (s : ByteArray) (k : Nat) (w : World) (hs : s.size ≤ maxLen) (hk : k < s.size) :
    Calls Tryd.prog 42 #[.string s, .int .i64 k] w fun e w' => e = resR (numTok s k) ∧ Below w.heap.size w w' := by
  cases hb : badForm s k
  · exact numberAt_good s k w hs hk hb
  · have hr : numTok s k = .error 12 := by unfold numTok; rw [if_pos (Or.inl hb)]
    rw [hr]
    exact numberAt_bad s k w hs hk hb

end Go.Proofs.YtflhniiemmahmaaDoor
