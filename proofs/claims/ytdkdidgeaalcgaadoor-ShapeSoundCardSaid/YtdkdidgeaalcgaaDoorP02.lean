/- The contract of lex.numberAt: the token of the number at a place, or ErrNumber; nothing that was in memory is changed. The contract of lex.tokenAt in a world that holds the tables of lex: the token at a place that is no blank, or the fault there; nothing that was in memory is changed. The plain account of lex.Tokens: where each round goes on, and what the whole comes to. Nothing of the program is walked here. The plain account of layer 2: trees, and the reader of tokens, line by line of the grammar in the way that package syntax reads it. Nothing of the program is walked here. -/
import Derived.Test.YtdkdidgeaalcgaaDoorP01
namespace Go.Proofs.YtdkdidgeaalcgaaDoor
section
open Go.RowKit

/- What the first n digits from place k on say. -/
def numTo (s : ByteArray) (k : Nat) : Nat → Nat
  | 0 => 0
  | n + 1 => numTo s k n * 10 + ((bat s (k + n)).toNat - 48)

theorem numTo_mono (s : ByteArray) (k n m : Nat) : numTo s k n ≤ numTo s k (n + m) := by
  induction m with
  | zero => exact Nat.le_refl _
  | succ m ih =>
    rw [← Nat.add_assoc, numTo]
    omega

def badForm (s : ByteArray) (k : Nat) : Bool :=
  (bat s k == 48 && decide (k + 1 < endOf isDI s k)) || (decide (endOf isDI s k < s.size) && isLI ((bat s (endOf isDI s k)).toNat : Int))

def numTok (s : ByteArray) (k : Nat) : Except Int Tok :=
  if badForm s k = true ∨ 1099511627776 < numTo s k (endOf isDI s k - k) then .error 12
  else .ok ⟨3, s.extract k (endOf isDI s k), numTo s k (endOf isDI s k - k), k⟩

theorem endOf_mem {p : Int → Bool} {s : ByteArray} {k : Nat} : ∀ i, k ≤ i → i < endOf p s k → (h : i < s.size) → p (s[i].toNat : Int) = true := by
  intro i hki hi h
  obtain ⟨d, rfl⟩ := Nat.exists_eq_add_of_le hki
  induction d generalizing k with
  | zero =>
    rcases Bool.eq_false_or_eq_true (p ((s[k]'h).toNat : Int)) with hp | hp
    · exact hp
    · have := endOf_stop (p := p) (s := s) (k := k) (by omega) hp
      omega
  | succ d ih =>
    cases hp : p ((s[k]'(by omega)).toNat : Int)
    · have := endOf_stop (p := p) (s := s) (k := k) (by omega) hp
      omega
    · have := endOf_step (p := p) (s := s) (k := k) (by omega) hp
      have h2 := ih (k := k + 1) (by omega) (by rw [this] at hi; omega) (by omega)
      have e : k + 1 + d = k + (d + 1) := by omega
      simp only [e] at h2
      exact h2

theorem digit_range {n : Int} (h : isDI n = true) : 48 ≤ n ∧ n ≤ 57 := by unfold isDI at h; simpa using h

set_option maxHeartbeats 400000 in
theorem numberAt_bad (s : ByteArray) (k : Nat) (w : World) (hs : s.size ≤ maxLen) (hk : k < s.size) (hb : badForm s k = true) :
    Calls Tryd.prog 31 #[.string s, .int .i64 k] w fun e w' => e = errR 12 ∧ Below w.heap.size w w' := by
  have hs' := hs
  unfold maxLen at hs'
  have hge := endOf_ge isDI s k
  have hle := endOf_le isDI s k (by omega)
  unfold badForm at hb
  rw [bat_eq s k hk] at hb
  generalize hE : endOf isDI s k = E at *
  have HE := Lib.hid hE
  clear hE
  have hz : ((s[k].toNat : Int) == 48) = (s[k] == 48) := by
    rw [Bool.eq_iff_iff]
    simp only [beq_iff_eq, ← UInt8.toNat_inj]
    have : (48 : UInt8).toNat = 48 := rfl
    omega
  have HZ := Lib.hid hz
  clear hz
  by_cases hA : ((s[k].toNat : Int) == 48) = true ∧ k + 1 < E
  · obtain ⟨h1, h2⟩ := hA
    have h3 : (k : Int) + 1 < (E : Int) := by omega
    clear hb
    go_enter Tryd.func31, Tryd.ntmps31
    go_wp2_with (go_at_call 21; refine (runEnd_digit _ _ _ hs (by omega) (by omega)).mono ?_; rintro e w' ⟨rfl, rfl⟩; rw [Int.toNat_natCast, HE.out])
    exact bodyPost_ret (v := .tuple #[tokV zeroTok, .int .i64 12]) (by simp [results, Tryd.results31, go_sem, tokV, zeroTok]) rfl ⟨rfl, by go_grown⟩
  · have hB : E < s.size ∧ isLI ((bat s E).toNat : Int) = true := by
      rw [← HZ.out] at hb
      cases h1 : ((s[k].toNat : Int) == 48)
      · simpa [h1] using hb
      · have : ¬ k + 1 < E := fun h => hA ⟨h1, h⟩
        simpa [h1, this] using hb
    obtain ⟨h1, h2⟩ := hB
    rw [bat_eq s E h1] at h2
    clear hb
    cases h4 : ((s[k].toNat : Int) == 48)
    · clear hA
      go_enter Tryd.func31, Tryd.ntmps31
      go_wp2_with (first
        | (go_at_call 21; refine (runEnd_digit _ _ _ hs (by omega) (by omega)).mono ?_; rintro e w' ⟨rfl, rfl⟩; rw [Int.toNat_natCast, HE.out])
        | (go_at_call 28; refine (beginsWord_any _ _).mono ?_; rintro e w' ⟨rfl, rfl⟩))
      exact bodyPost_ret (v := .tuple #[tokV zeroTok, .int .i64 12]) (by simp [results, Tryd.results31, go_sem, tokV, zeroTok]) rfl ⟨rfl, by go_grown⟩
    · have h5 : ¬ (k : Int) + 1 < (E : Int) := fun h => hA ⟨h4, by omega⟩
      clear hA
      go_enter Tryd.func31, Tryd.ntmps31
      go_wp2_with (first
        | (go_at_call 21; refine (runEnd_digit _ _ _ hs (by omega) (by omega)).mono ?_; rintro e w' ⟨rfl, rfl⟩; rw [Int.toNat_natCast, HE.out])
        | (go_at_call 28; refine (beginsWord_any _ _).mono ?_; rintro e w' ⟨rfl, rfl⟩))
      exact bodyPost_ret (v := .tuple #[tokV zeroTok, .int .i64 12]) (by simp [results, Tryd.results31, go_sem, tokV, zeroTok]) rfl ⟨rfl, by go_grown⟩

def NumPost (s : ByteArray) (k : Nat) (w : World) (e : Ending) (w' : World) : Prop := e = resR (numTok s k) ∧ Below w.heap.size w w'

theorem numTok_great {s : ByteArray} {k d : Nat} (hd : k + d ≤ endOf isDI s k) (h : 1099511627776 < numTo s k d) : numTok s k = .error 12 := by
  unfold numTok
  rw [if_pos]
  right
  have := numTo_mono s k d (endOf isDI s k - k - d)
  rw [show d + (endOf isDI s k - k - d) = endOf isDI s k - k by omega] at this
  omega

theorem numTok_ok {s : ByteArray} {k d E : Nat} (hb : badForm s k = false) (hE : endOf isDI s k = E) (hd : k + d = E) (h : numTo s k d ≤ 1099511627776) : numTok s k = .ok ⟨3, s.extract k E, numTo s k d, k⟩ := by
  unfold numTok
  have e : E - k = d := by omega
  rw [hE, e, if_neg]
  rw [hb]
  simp
  omega

set_option maxHeartbeats 1000000 in
theorem numberAt_good (s : ByteArray) (k : Nat) (w : World) (hs : s.size ≤ maxLen) (hk : k < s.size) (hb : badForm s k = false) :
    Calls Tryd.prog 31 #[.string s, .int .i64 k] w fun e w' => NumPost s k w e w' := by
  have HB := Lib.hid hb
  have hs' := hs
  unfold maxLen at hs'
  have hge := endOf_ge isDI s k
  have hle := endOf_le isDI s k (by omega)
  have hmem := fun i => endOf_mem (p := isDI) (s := s) (k := k) i
  unfold badForm at hb
  rw [bat_eq s k hk] at hb
  generalize hE : endOf isDI s k = E at *
  have HE := Lib.hid hE
  have HM := Lib.hid hmem
  clear hE hmem
  have hz : ((s[k].toNat : Int) == 48) = (s[k] == 48) := by
    rw [Bool.eq_iff_iff]
    simp only [beq_iff_eq, ← UInt8.toNat_inj]
    have : (48 : UInt8).toNat = 48 := rfl
    omega
  rw [← hz] at hb
  have HZ := Lib.hid hz
  clear hz
  have hA : ((s[k].toNat : Int) == 48) = true → ¬ k + 1 < E := by
    intro h1 h2
    rw [h1] at hb
    simp [h2] at hb
  have hB : ∀ h : E < s.size, isLI (s[E].toNat : Int) = false := by
    intro h
    rw [← bat_eq s E h]
    cases h3 : isLI ((bat s E).toNat : Int)
    · rfl
    · rw [h3] at hb; simp [h] at hb
  clear hb
  cases h4 : ((s[k].toNat : Int) == 48) <;> by_cases h6 : E < s.size
  all_goals
    first
    | (have h7 := hB h6)
    | (have h7 : ¬ (E : Int) < (s.size : Int) := by omega)
    first
    | (have h5 : ¬ (k : Int) + 1 < (E : Int) := by have := hA h4; omega)
    | skip
    clear hA hB
    go_enter Tryd.func31, Tryd.ntmps31
    go_wp2_with (first
      | (go_at_call 21; refine (runEnd_digit _ _ _ hs (by omega) (by omega)).mono ?_; rintro e w' ⟨rfl, rfl⟩; rw [Int.toNat_natCast, HE.out])
      | (go_at_call 28; refine (beginsWord_any _ _).mono ?_; rintro e w' ⟨rfl, rfl⟩))
    go_loop [7, 8] (fun n i => ∃ d : Nat, k + d ≤ E ∧ i = .int .i64 (k + d : Nat) ∧ n = .int .i64 (numTo s k d) ∧ numTo s k d ≤ 1099511627776) (fun _ i => E - (intOf i).toNat)
    case atStart => exact ⟨0, by omega, by simp, rfl, by simp [numTo]⟩
    case round =>
      obtain ⟨d, hd, rfl, rfl, hM⟩ := hrel
      clear h4 h7
      by_cases hlt : k + d < E
      · have hdl : k + d < s.size := by omega
        have hdig := digit_range (HM.out (k + d) (by omega) hlt hdl)
        have hnx : numTo s k (d + 1) = numTo s k d * 10 + (s[k + d].toNat - 48) := by rw [numTo, bat_eq s _ hdl]
        have HN := Lib.hid hnx
        clear hnx
        by_cases hgr : 1099511627776 < numTo s k (d + 1)
        · have HG := Lib.hid (numTok_great (s := s) (k := k) (d := d + 1) (by rw [HE.out]; omega) hgr)
          have hgr' : 1099511627776 < (numTo s k d : Int) * 10 + ((s[k + d].toNat : Int) - 48) := by rw [HN.out] at hgr; omega
          clear hgr HN
          generalize hN : numTo s k d = N at *
          generalize hc : (s[k + d].toNat) = c at *
          go_wp2
          unfold NumPost
          rw [HG.out]
          exact bodyPost_ret (v := .tuple #[tokV zeroTok, .int .i64 12]) (by simp [results, Tryd.results31, go_sem, tokV, zeroTok]) rfl ⟨rfl, by go_grown⟩
        · have hgr' : ¬ 1099511627776 < (numTo s k d : Int) * 10 + ((s[k + d].toNat : Int) - 48) := by rw [HN.out] at hgr; omega
          have HV := Lib.hid (show ((numTo s k (d + 1) : Nat) : Int) = (numTo s k d : Int) * 10 + ((s[k + d].toNat : Int) - 48) by rw [HN.out]; omega)
          have HL := Lib.hid (show numTo s k (d + 1) ≤ 1099511627776 by omega)
          clear hgr HN
          generalize hN : numTo s k d = N at *
          generalize hc : (s[k + d].toNat) = c at *
          go_wp2
          go_round
          case rel => exact ⟨d + 1, by omega, by go_num, by rw [HV.out], HL.out⟩
          case measure => simp [intOf]; omega
      · have HO := Lib.hid (numTok_ok HB.out HE.out (show k + d = E by omega) hM)
        generalize hN : numTo s k d = N at *
        go_wp2
        unfold NumPost
        rw [HO.out]
        exact bodyPost_ret (v := .tuple #[tokV ⟨3, s.extract k E, N, k⟩, .int .i64 0]) (by simp [results, Tryd.results31, go_sem, tokV]) rfl ⟨rfl, by go_grown⟩

theorem numberAt_any (s : ByteArray) (k : Nat) (w : World) (hs : s.size ≤ maxLen) (hk : k < s.size) :
    Calls Tryd.prog 31 #[.string s, .int .i64 k] w fun e w' => e = resR (numTok s k) ∧ Below w.heap.size w w' := by
  cases hb : badForm s k
  · exact numberAt_good s k w hs hk hb
  · have hr : numTok s k = .error 12 := by unfold numTok; rw [if_pos (Or.inl hb)]
    rw [hr]
    exact numberAt_bad s k w hs hk hb
end

section
open Go.RowKit

def tokOf : Except Int Tok → Tok
  | .ok t => t
  | .error _ => zeroTok
def errOf : Except Int Tok → Int
  | .ok _ => 0
  | .error e => e

theorem resR_eq (x : Except Int Tok) : resR x = .returned (.tuple #[tokV (tokOf x), .int .i64 (errOf x)]) := by cases x <;> rfl

def tokAt (s : ByteArray) (k : Nat) : Except Int Tok :=
  if isLI ((bat s k).toNat : Int) = true then wordTok s k else if isDI ((bat s k).toNat : Int) = true then numTok s k else signTok s k

theorem bcell {W w1 : World} (hb : Below W.heap.size W w1) : (∀ b o, b < W.heap.size → w1.cell? ⟨b, o, none⟩ = W.cell? ⟨b, o, none⟩) ∧ (∀ b o, b < W.heap.size → w1.frozen? ⟨b, o, none⟩ = W.frozen? ⟨b, o, none⟩) :=
  ⟨fun b o h => hb.cell (p := ⟨b, o, none⟩) h, fun b o h => hb.frozen (p := ⟨b, o, none⟩) h⟩

set_option maxHeartbeats 400000 in
theorem tokenAt_any (s : ByteArray) (k : Nat) (w : World) (hs : s.size ≤ maxLen) (hk : k < s.size) (ht : Tabs w) :
    Calls Tryd.prog 23 #[.string s, .int .i64 k] w fun e w' => e = resR (tokAt s k) ∧ Below w.heap.size w w' := by
  have hs' := hs
  unfold maxLen at hs'
  cases hl : isLI (s[k].toNat : Int)
  · cases hd : isDI (s[k].toNat : Int)
    · have hr : tokAt s k = signTok s k := by unfold tokAt; rw [bat_eq s k hk, if_neg (by simp [hl]), if_neg (by simp [hd])]
      rw [hr, resR_eq]
      clear hr
      generalize hx : signTok s k = x
      have HX := Lib.hid hx
      clear hx
      go_enter Tryd.func23, Tryd.ntmps23
      go_wp2_with (first
        | (go_at_call 28; refine (beginsWord_any _ _).mono ?_; rintro e w' ⟨rfl, rfl⟩)
        | (go_at_call 30; refine (isDigit_any _ _).mono ?_; rintro e w' ⟨rfl, rfl⟩))
      refine (signAt_any s k _ hs hk ht.alloc).mono ?_
      rintro e w1 ⟨rfl, hb⟩
      rw [resR_eq, HX.out]
      obtain ⟨hc, hf⟩ := bcell hb
      have hz : w.heap.size + 1 ≤ w1.heap.size := by have := hb.size; simp at this; omega
      have HB := Lib.hid (((Below.refl w.heap.size w).alloc (Nat.le_refl _) _).trans (hb.mono (by simp)))
      clear hb
      unfold tokV
      go_wp2
      exact bodyPost_ret (v := .tuple #[tokV (tokOf x), .int .i64 (errOf x)]) (by simp [results, Tryd.results23, go_sem, tokV, hc]) rfl ⟨rfl, by repeat (first | exact HB.out | refine Below.setCell ?_ (by simp) _)⟩
    · have hr : tokAt s k = numTok s k := by unfold tokAt; rw [bat_eq s k hk, if_neg (by simp [hl]), if_pos (by simp [hd])]
      rw [hr, resR_eq]
      clear hr
      generalize hx : numTok s k = x
      have HX := Lib.hid hx
      clear hx
      go_enter Tryd.func23, Tryd.ntmps23
      go_wp2_with (first
        | (go_at_call 28; refine (beginsWord_any _ _).mono ?_; rintro e w' ⟨rfl, rfl⟩)
        | (go_at_call 30; refine (isDigit_any _ _).mono ?_; rintro e w' ⟨rfl, rfl⟩))
      refine (numberAt_any s k _ hs hk).mono ?_
      rintro e w1 ⟨rfl, hb⟩
      rw [resR_eq, HX.out]
      obtain ⟨hc, hf⟩ := bcell hb
      have hz : w.heap.size + 1 ≤ w1.heap.size := by have := hb.size; simp at this; omega
      have HB := Lib.hid (((Below.refl w.heap.size w).alloc (Nat.le_refl _) _).trans (hb.mono (by simp)))
      clear hb
      unfold tokV
      go_wp2
      exact bodyPost_ret (v := .tuple #[tokV (tokOf x), .int .i64 (errOf x)]) (by simp [results, Tryd.results23, go_sem, tokV, hc]) rfl ⟨rfl, by repeat (first | exact HB.out | refine Below.setCell ?_ (by simp) _)⟩
  · · have hr : tokAt s k = wordTok s k := by unfold tokAt; rw [bat_eq s k hk, if_pos (by simp [hl])]
      rw [hr, resR_eq]
      clear hr
      generalize hx : wordTok s k = x
      have HX := Lib.hid hx
      clear hx
      go_enter Tryd.func23, Tryd.ntmps23
      go_wp2_with (first
        | (go_at_call 28; refine (beginsWord_any _ _).mono ?_; rintro e w' ⟨rfl, rfl⟩)
        | (go_at_call 30; refine (isDigit_any _ _).mono ?_; rintro e w' ⟨rfl, rfl⟩))
      refine (wordAt_any s k _ hs hk ht.alloc).mono ?_
      rintro e w1 ⟨rfl, hb⟩
      rw [resR_eq, HX.out]
      obtain ⟨hc, hf⟩ := bcell hb
      have hz : w.heap.size + 1 ≤ w1.heap.size := by have := hb.size; simp at this; omega
      have HB := Lib.hid (((Below.refl w.heap.size w).alloc (Nat.le_refl _) _).trans (hb.mono (by simp)))
      clear hb
      unfold tokV
      go_wp2
      exact bodyPost_ret (v := .tuple #[tokV (tokOf x), .int .i64 (errOf x)]) (by simp [results, Tryd.results23, go_sem, tokV, hc]) rfl ⟨rfl, by repeat (first | exact HB.out | refine Below.setCell ?_ (by simp) _)⟩
end

section
open Go.RowKit

def isBlank (b : UInt8) : Bool := b == 32 || b == 10

def endTok (s : ByteArray) : Tok := ⟨0, ⟨#[]⟩, 0, s.size⟩

abbrev LexRes := Except (Nat × Int) (List Tok)

def more (ts : List Tok) : LexRes → LexRes
  | .ok r => .ok (ts ++ r)
  | .error e => .error e

/- What is read from place k on: the tokens, the End last, or the place and the number of the first fault. -/
def lexFrom (s : ByteArray) (k : Nat) : LexRes :=
  if _h : s.size ≤ k then .ok [endTok s]
  else if isBlank (bat s k) = true then lexFrom s (k + 1)
  else if bat s k = 35 then lexFrom s (max (k + 1) (endOf isRI s k))
  else match tokAt s k with
    | .error e => .error (k, e)
    | .ok t => more [t] (lexFrom s (max (k + 1) (k + t.text.size)))
termination_by s.size - k
decreasing_by all_goals omega

def lexAll (s : ByteArray) : LexRes := if 16384 < s.size then .error (0, 10) else lexFrom s 0

theorem more_more (a b : List Tok) (r : LexRes) : more a (more b r) = more (a ++ b) r := by cases r <;> simp [more]
theorem more_nil (r : LexRes) : more [] r = r := by cases r <;> simp [more]

theorem lex_end {s : ByteArray} {k : Nat} (h : s.size ≤ k) : lexFrom s k = .ok [endTok s] := by
  rw [lexFrom, dif_pos h]

theorem lex_blank {s : ByteArray} {k : Nat} (h : k < s.size) (hb : isBlank (bat s k) = true) : lexFrom s k = lexFrom s (k + 1) := by
  rw [lexFrom, dif_neg (by omega), if_pos hb]

theorem extract_size' (s : ByteArray) (a b : Nat) (h : b ≤ s.size) : (s.extract a b).size = b - a := by
  rw [ByteArray.size_extract, Nat.min_eq_left h]

theorem remark_gt {s : ByteArray} {k : Nat} (h : k < s.size) (hb : bat s k = 35) : k + 1 ≤ endOf isRI s k := by
  have hp : isRI ((s[k]).toNat : Int) = true := by rw [← bat_eq s k h, hb]; rfl
  rw [endOf_step h hp]
  exact endOf_ge _ _ _

theorem lex_remark {s : ByteArray} {k : Nat} (h : k < s.size) (hb : bat s k = 35) : lexFrom s k = lexFrom s (endOf isRI s k) := by
  have hnb : ¬ isBlank (bat s k) = true := by rw [hb]; decide
  rw [lexFrom, dif_neg (by omega), if_neg hnb, if_pos hb, Nat.max_eq_right (remark_gt h hb)]

theorem lex_err {s : ByteArray} {k : Nat} {e : Int} (h : k < s.size) (hb : isBlank (bat s k) = false) (hr : ¬ bat s k = 35) (ht : tokAt s k = .error e) : lexFrom s k = .error (k, e) := by
  rw [lexFrom, dif_neg (by omega), if_neg (by simp [hb]), if_neg hr, ht]

/- A token is one byte long at least, and lies within the text. -/
theorem word_size {s : ByteArray} {k : Nat} {t : Tok} (h : k < s.size) (hl : isLI ((bat s k).toNat : Int) = true) (ht : wordTok s k = .ok t) : 1 ≤ t.text.size ∧ k + t.text.size ≤ s.size := by
  have hp : isWI ((s[k]).toNat : Int) = true := by rw [← bat_eq s k h]; unfold isWI; rw [hl]; rfl
  have h1 : k + 1 ≤ endOf isWI s k := by rw [endOf_step h hp]; exact endOf_ge _ _ _
  have h2 := endOf_le isWI s k (by omega)
  unfold wordTok at ht
  split at ht
  · cases ht
  · split at ht
    all_goals
      injection ht with ht
      subst ht
      simp only [extract_size' s k _ h2]
      omega

theorem num_size {s : ByteArray} {k : Nat} {t : Tok} (h : k < s.size) (hl : isDI ((bat s k).toNat : Int) = true) (ht : numTok s k = .ok t) : 1 ≤ t.text.size ∧ k + t.text.size ≤ s.size := by
  have hp : isDI ((s[k]).toNat : Int) = true := by rw [← bat_eq s k h]; exact hl
  have h1 : k + 1 ≤ endOf isDI s k := by rw [endOf_step h hp]; exact endOf_ge _ _ _
  have h2 := endOf_le isDI s k (by omega)
  unfold numTok at ht
  split at ht
  · cases ht
  · injection ht with ht
    subst ht
    simp only [extract_size' s k _ h2]
    omega

theorem pre_size {s : ByteArray} {k i : Nat} (hi : i < 3) (hk : k < s.size) (h : hasPre (s.extract k s.size) (pairAt i) = true) : k + 2 ≤ s.size := by
  unfold hasPre at h
  rw [Bool.and_eq_true] at h
  have := h.1
  rw [extract_size' s k _ (Nat.le_refl _), pairAt_size i hi] at this
  simp at this
  omega

theorem signFrom_size {s : ByteArray} {k : Nat} (h : k < s.size) : ∀ (n : Nat) (t : Tok), n ≤ 3 → signFrom s k n = .ok t → 1 ≤ t.text.size ∧ k + t.text.size ≤ s.size
  | 0, t, _, ht => by
    unfold signFrom signEnd at ht
    split at ht
    · injection ht with ht
      subst ht
      simp only [extract_size' s k _ (show k + 1 ≤ s.size by omega)]
      omega
    · cases ht
  | n + 1, t, hn, ht => by
    unfold signFrom at ht
    split at ht
    · rename_i hp
      have := pre_size (by omega) h hp
      injection ht with ht
      subst ht
      simp only [pairAt_size (2 - n) (by omega)]
      omega
    · exact signFrom_size h n t (by omega) ht

theorem tokAt_size {s : ByteArray} {k : Nat} {t : Tok} (h : k < s.size) (ht : tokAt s k = .ok t) : 1 ≤ t.text.size ∧ k + t.text.size ≤ s.size := by
  unfold tokAt at ht
  split at ht
  · exact word_size h (by assumption) ht
  · split at ht
    · exact num_size h (by assumption) ht
    · exact signFrom_size h 3 t (Nat.le_refl _) ht

theorem lex_tok {s : ByteArray} {k : Nat} {t : Tok} (h : k < s.size) (hb : isBlank (bat s k) = false) (hr : ¬ bat s k = 35) (ht : tokAt s k = .ok t) : lexFrom s k = more [t] (lexFrom s (k + t.text.size)) := by
  have := (tokAt_size h ht).1
  rw [lexFrom, dif_neg (by omega), if_neg (by simp [hb]), if_neg hr, ht]
  simp only
  rw [Nat.max_eq_right (by omega)]
end

section
open Go.RowKit

inductive T where
  | mk (kind : Int) (text : ByteArray) (num : Int) (place : Nat) (kids : List T)

def T.kids : T → List T | .mk _ _ _ _ ks => ks
def T.text : T → ByteArray | .mk _ s _ _ _ => s
def T.place : T → Nat | .mk _ _ _ p _ => p
def T.kind : T → Int | .mk k _ _ _ _ => k
def T.num : T → Int | .mk _ _ n _ _ => n

/- What a reader of tokens comes to: what was read and the tokens behind it, or the place and the number of the first fault. -/
abbrev R (α : Type) := Except (Nat × Int) (α × List Tok)

def bd {α β : Type} (r : R α) (f : α → List Tok → R β) : R β :=
  match r with
  | .error e => .error e
  | .ok (a, l) => f a l

theorem bd_ok {α β : Type} {r : R α} {a : α} {l : List Tok} (h : r = .ok (a, l)) (f : α → List Tok → R β) : bd r f = f a l := by rw [h]; rfl
theorem bd_err {α β : Type} {r : R α} {e : Nat × Int} (h : r = .error e) (f : α → List Tok → R β) : bd r f = .error e := by rw [h]; rfl

def hdT (l : List Tok) : Tok := l.headD zeroTok

/- The bytes of the key words and signs. -/
def bs (l : List UInt8) : ByteArray := ⟨l.toArray⟩

def isT (t : Tok) (s : ByteArray) : Bool := t.text.toList == s.toList

def expectP (ss : List ByteArray) (l : List Tok) : R Tok := bif ss.any (isT (hdT l)) then .ok (hdT l, l.tail) else .error ((hdT l).place, 20)
def kindP (k : Nat) (l : List Tok) : R Tok := bif (hdT l).kind == k then .ok (hdT l, l.tail) else .error ((hdT l).place, 20)
def nameP (l : List Tok) : R ByteArray := bd (kindP 1 l) fun t l => .ok (t.text, l)
def numberP (l : List Tok) : R Int := bd (kindP 3 l) fun t l => .ok ((t.num : Int), l)

def e0 : ByteArray := ⟨#[]⟩

/- One item or more with commas between; the number bounds the items that may follow. -/
def listF (item : List Tok → R T) : Nat → List Tok → R (List T)
  | 0, _ => .error (0, 0)
  | n + 1, l => bif isT (hdT l) (bs [44]) then bd (item l.tail) fun a l => bd (listF item n l) fun xs l => .ok (a :: xs, l) else .ok ([], l)
def listP (item : List Tok → R T) (l : List Tok) : R (List T) := bd (item l) fun a l => bd (listF item l.length l) fun xs l => .ok (a :: xs, l)
def parensP (item : List Tok → R T) (l : List Tok) : R (List T) :=
  bd (expectP [bs [40]] l) fun _ l => bif isT (hdT l) (bs [41]) then .ok ([], l.tail) else bd (listP item l) fun xs l => bd (expectP [bs [41]] l) fun _ l => .ok (xs, l)

def nameTermP (l : List Tok) : R T := bd (nameP l) fun s l1 => .ok (.mk 5 s 0 (hdT l).place [], l1)
def numberTermP (l : List Tok) : R T :=
  bif isT (hdT l) (bs [45]) then bd (numberP l.tail) fun n l1 => .ok (.mk 5 e0 (-n) (hdT l).place [], l1)
  else bd (numberP l) fun n l1 => .ok (.mk 5 e0 n (hdT l).place [], l1)
/- The sign of a sum: its kind and its factor. -/
def sumP (l : List Tok) : Option (Int × Int) := bif isT (hdT l) (bs [43]) then some (21, 1) else bif isT (hdT l) (bs [45]) then some (22, -1) else none
def sumK (r : Option (Int × Int)) (a : R T) (f : Int → Int → R T) : R T :=
  match r with
  | none => a
  | some (k, x) => f k x
theorem sumK_none {r : Option (Int × Int)} (h : r = none) (a : R T) (f : Int → Int → R T) : sumK r a f = a := by rw [h]; rfl
theorem sumK_some {r : Option (Int × Int)} {k x : Int} (h : r = some (k, x)) (a : R T) (f : Int → Int → R T) : sumK r a f = f k x := by rw [h]; rfl
def T.setNum (v : Int) : T → T | .mk k s _ p ks => .mk k s v p ks
def termP (l : List Tok) : R T :=
  bif (hdT l).kind == 1 then bd (nameTermP l) fun n l1 => sumK (sumP l1) (.ok (n, l1)) fun _ f => bd (numberP l1.tail) fun v l2 => .ok (n.setNum (f * v), l2)
  else numberTermP l

def indexP (l : List Tok) : R T := bd (expectP [bs [91]] l) fun _ l => bd (termP l) fun a l => bd (expectP [bs [93]] l) fun _ l => .ok (a, l)
def callP (n : T) (l : List Tok) : R T := bd (parensP termP l) fun xs l => .ok (.mk 28 n.text 0 n.place xs, l)
def refP (p : Nat) (l : List Tok) : R T :=
  bif isT (hdT l) (bs [109, 117, 116]) then bd (nameP l.tail) fun s l => .ok (.mk 27 s 0 p [], l) else bd (nameP l) fun s l => .ok (.mk 26 s 0 p [], l)
def nameExprP (l : List Tok) : R T :=
  bd (nameTermP l) fun n l =>
    bif isT (hdT l) (bs [91]) then bd (indexP l) fun a l => .ok (.mk 25 n.text 0 n.place [a], l)
    else bif isT (hdT l) (bs [40]) then callP n l
    else sumK (sumP l) (.ok (n, l)) fun k f =>
      bif (hdT l.tail).kind == 1 then bd (nameTermP l.tail) fun m l => .ok (.mk k e0 0 n.place [n, m], l)
      else bd (numberP l.tail) fun v l => .ok (n.setNum (f * v), l)
def exprP (l : List Tok) : R T :=
  bif isT (hdT l) (bs [110, 101, 119]) then bd (numberP l.tail) fun v l1 => .ok (.mk 23 e0 v (hdT l).place [], l1)
  else bif isT (hdT l) (bs [97, 114, 114, 97, 121]) then bd (nameP l.tail) fun s l1 => .ok (.mk 24 s 0 (hdT l).place [], l1)
  else bif isT (hdT l) (bs [38]) then refP (hdT l).place l.tail
  else bif (hdT l).kind == 1 then nameExprP l
  else numberTermP l

def compareP (k : Int) (p : Nat) (l : List Tok) : R T :=
  bd (termP l) fun a l => bd (expectP [bs [60], bs [60, 61], bs [61, 61]] l) fun c l => bd (termP l) fun b l => .ok (.mk k c.text 0 p [a, b], l)
def factP (l : List Tok) : R T := compareP 4 (hdT l).place l
def fieldP (l : List Tok) : R T :=
  bd (nameP l) fun s l1 => bif isT (hdT l1) (bs [91]) then bd (nameTermP l1.tail) fun a l2 => bd (expectP [bs [93]] l2) fun _ l3 => .ok (.mk 3 s 0 (hdT l).place [a], l3) else .ok (.mk 3 s 0 (hdT l).place [], l1)

def sortP (l : List Tok) : R T :=
  bd (expectP [bs [111, 119, 110], bs [99, 101, 108, 108], bs [99, 111, 117, 110, 116, 101, 100], bs [108, 111, 99, 107], bs [103, 117, 97, 114, 100]] l) fun t l1 =>
    bif isT t (bs [111, 119, 110]) || isT t (bs [99, 101, 108, 108]) then .ok (.mk 2 t.text 0 t.place [], l1) else bd (nameTermP l1) fun a l2 => .ok (.mk 2 t.text 0 t.place [a], l2)
def valueModeP (l : List Tok) : R T :=
  bd (expectP [bs [105, 110, 116], bs [111, 119, 110]] l) fun t l1 =>
    bif isT t (bs [111, 119, 110]) then bd (nameTermP l1) fun a l2 => .ok (.mk 8 t.text 0 t.place [a], l2) else .ok (.mk 8 t.text 0 t.place [], l1)
def modeP (l : List Tok) : R T :=
  bif isT (hdT l) (bs [38]) then
    bif isT (hdT l.tail) (bs [109, 117, 116]) then bd (nameTermP l.tail.tail) fun a l2 => .ok (.mk 8 (bs [38, 109, 117, 116]) 0 (hdT l).place [a], l2)
    else bd (nameTermP l.tail) fun a l2 => .ok (.mk 8 (bs [38]) 0 (hdT l).place [a], l2)
  else valueModeP l
def paramP (l : List Tok) : R T :=
  bd (nameP l) fun s l1 => bd (expectP [bs [58]] l1) fun _ l2 => bd (modeP l2) fun a l3 => .ok (.mk 7 s 0 (hdT l).place [a], l3)

/- What may stand in a type behind its sort: a list behind its first sign, or nothing. -/
def fieldsP (l : List Tok) : R (List T) :=
  bif isT (hdT l) (bs [123]) then bd (listP fieldP l.tail) fun xs l1 => bd (expectP [bs [125]] l1) fun _ l2 => .ok (xs, l2) else .ok ([], l)
def factsP (l : List Tok) : R (List T) :=
  bif isT (hdT l) (bs [119, 104, 101, 114, 101]) then listP factP l.tail else .ok ([], l)
def typeP (p : Nat) (l : List Tok) : R T :=
  bd (nameP l) fun s l1 => bd (sortP l1) fun a l2 => bd (fieldsP l2) fun ys l3 => bd (factsP l3) fun zs l4 => bd (expectP [bs [59]] l4) fun _ l5 => .ok (.mk 1 s 0 p (a :: (ys ++ zs)), l5)

def lockP (k : Int) (p : Nat) (l : List Tok) : R T :=
  bd (nameP l) fun s l1 => bd (expectP [bs [91]] l1) fun _ l2 => bd (numberP l2) fun v l3 => bd (expectP [bs [93]] l3) fun _ l4 => .ok (.mk k s v p [], l4)
def returnP (p : Nat) (l : List Tok) : R T :=
  bif isT (hdT l) (bs [59]) then .ok (.mk 17 e0 0 p [], l) else bd (termP l) fun a l1 => .ok (.mk 17 e0 0 p [a], l1)
def namedP (l : List Tok) : R T :=
  bd (nameTermP l) fun n l1 =>
    bif isT (hdT l1) (bs [40]) then bd (callP n l1) fun c l2 => .ok (.mk 20 e0 0 n.place [c], l2)
    else bif isT (hdT l1) (bs [91]) then bd (indexP l1) fun i l2 => bd (expectP [bs [61]] l2) fun _ l3 => bd (termP l3) fun b l4 => .ok (.mk 11 n.text 0 n.place [i, b], l4)
    else bd (expectP [bs [61]] l1) fun _ l2 => bd (exprP l2) fun x l3 => .ok (.mk 10 n.text 0 n.place [x], l3)
def simpleP (l : List Tok) : R T :=
  bif (hdT l).kind == 1 then namedP l
  else bif isT (hdT l) (bs [102, 114, 101, 101]) then bd (nameP l.tail) fun s l1 => .ok (.mk 12 s 0 (hdT l).place [], l1)
  else bif isT (hdT l) (bs [108, 111, 99, 107]) then lockP 13 (hdT l).place l.tail
  else bif isT (hdT l) (bs [117, 110, 108, 111, 99, 107]) then lockP 14 (hdT l).place l.tail
  else bif isT (hdT l) (bs [114, 101, 116, 117, 114, 110]) then returnP (hdT l).place l.tail
  else bif isT (hdT l) (bs [97, 98, 111, 114, 116]) then .ok (.mk 18 e0 0 (hdT l).place [], l.tail)
  else bif isT (hdT l) (bs [102, 111, 114, 107]) then bd (nameP l.tail) fun s l1 => bd (parensP termP l1) fun xs l2 => .ok (.mk 19 s 0 (hdT l).place xs, l2)
  else .error ((hdT l).place, 20)

def T.snoc : T → T → T | .mk k s n p ks, b => .mk k s n p (ks ++ [b])
def elseP (blk : List Tok → R T) (p : Nat) (l : List Tok) : R T :=
  bif isT (hdT l) (bs [101, 108, 115, 101]) then blk l.tail else .ok (.mk 9 e0 0 p [], l)
def ifP (blk : List Tok → R T) (p : Nat) (l : List Tok) : R T :=
  bd (compareP 15 p l) fun n l1 => bd (blk l1) fun b l2 => bd (elseP blk p l2) fun c l3 => .ok ((n.snoc b).snoc c, l3)
def whileP (blk : List Tok → R T) (p : Nat) (l : List Tok) : R T :=
  bd (compareP 16 p l) fun n l1 => bd (blk l1) fun b l2 => .ok (n.snoc b, l2)
def stmtP (blk : List Tok → R T) (l : List Tok) : R T :=
  bif isT (hdT l) (bs [105, 102]) then ifP blk (hdT l).place l.tail
  else bif isT (hdT l) (bs [119, 104, 105, 108, 101]) then whileP blk (hdT l).place l.tail
  else bd (simpleP l) fun n l1 => bd (expectP [bs [59]] l1) fun _ l2 => .ok (n, l2)
def stmtsF (item : List Tok → R T) : Nat → List Tok → R (List T)
  | 0, _ => .error (0, 0)
  | n + 1, l => bif isT (hdT l) (bs [125]) then .ok ([], l.tail) else bd (item l) fun a l1 => bd (stmtsF item n l1) fun xs l2 => .ok (a :: xs, l2)
/- A block within which so many blocks may yet be opened, itself among them. -/
def blockP : Nat → List Tok → R T
  | 0, l => bd (expectP [bs [123]] l) fun t _ => .error (t.place, 21)
  | n + 1, l => bd (expectP [bs [123]] l) fun t l1 => bd (stmtsF (stmtP (blockP n)) l1.length l1) fun xs l2 => .ok (.mk 9 e0 0 t.place xs, l2)

def resultP (l : List Tok) : R T :=
  bif isT (hdT l) (bs [45, 62]) then valueModeP l.tail else .ok (.mk 8 e0 0 (hdT l).place [], l)
def fnP (p : Nat) (l : List Tok) : R T :=
  bd (nameP l) fun s l1 => bd (parensP paramP l1) fun xs l2 => bd (resultP l2) fun r l3 => bd (blockP 8 l3) fun b l4 => .ok (.mk 6 s 0 p (xs ++ [r, b]), l4)
def declP (l : List Tok) : R T :=
  bd (expectP [bs [116, 121, 112, 101], bs [102, 110]] l) fun t l1 => bif isT t (bs [116, 121, 112, 101]) then typeP t.place l1 else fnP t.place l1
def unitF : Nat → List Tok → R (List T)
  | 0, _ => .error (0, 0)
  | n + 1, l => bif (hdT l).kind == 0 then .ok ([], l) else bd (declP l) fun a l1 => bd (unitF n l1) fun xs l2 => .ok (a :: xs, l2)
def unitP (l : List Tok) : R T := bd (unitF (l.length + 1) l) fun xs l1 => .ok (.mk 0 e0 0 0 xs, l1)

mutual
def T.size : T → Nat
  | .mk _ _ _ _ ks => 1 + sizes ks
def sizes : List T → Nat
  | [] => 0
  | t :: ts => t.size + sizes ts
end

def zeroT : T := .mk 0 e0 0 0 []

/- What Parse answers: the tree, the place, the error. -/
def parseToks (l : List Tok) : T × Nat × Int :=
  match unitP l with
  | .error (p, e) => (zeroT, p, e)
  | .ok (t, _) => if 4096 < t.size then (zeroT, 0, 22) else (t, 0, 0)
def parseB (s : ByteArray) : T × Nat × Int :=
  match lexAll s with
  | .error (p, e) => (zeroT, p, e)
  | .ok ts => parseToks ts
end

end Go.Proofs.YtdkdidgeaalcgaaDoor
