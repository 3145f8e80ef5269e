/- The plain account of lex.Tokens: where each round goes on, and what the whole comes to. Nothing of the program is walked here. -/
import Derived.Test.YtflhniiemmahmaaDoorTokenAt
namespace Go.Proofs.YtflhniiemmahmaaDoor
open Go.RowKit

def isBlank (b : UInt8) : Bool := b == 32 || b == 10

def endTok (s : ByteArray) : Tok := ⟨0, ⟨#[]⟩, 0, s.size⟩

abbrev LexRes := Except (Nat × Int) (List Tok)

def more (ts : List Tok) : LexRes → LexRes
  | .ok r => .ok (ts ++ r)
  | .error e => .error e

/- What is read from place k on: the tokens, the End last, or the place and the number of the first fault. -/
def lexFrom (s : ByteArray) (k : Nat) : LexRes :=
  if _h : s.size ≤ k then .ok [endTok s]
  else if isBlank (bat s k) = true then lexFrom s (k + 1)
  else if bat s k = 35 then lexFrom s (max (k + 1) (endOf isRI s k))
  else match tokAt s k with
    | .error e => .error (k, e)
    | .ok t => more [t] (lexFrom s (max (k + 1) (k + t.text.size)))
termination_by s.size - k
decreasing_by all_goals omega

def lexAll (s : ByteArray) : LexRes := if 16384 < s.size then .error (0, 10) else lexFrom s 0

theorem more_more (a b : List Tok) (r : LexRes) : more a (more b r) = more (a ++ b) r := by cases r <;> simp [more]
theorem more_nil (r : LexRes) : more [] r = r := by cases r <;> simp [more]

theorem lex_end {s : ByteArray} {k : Nat} (h : s.size ≤ k) : lexFrom s k = .ok [endTok s] := by
  rw [lexFrom, dif_pos h]

theorem lex_blank {s : ByteArray} {k : Nat} (h : k < s.size) (hb : isBlank (bat s k) = true) : lexFrom s k = lexFrom s (k + 1) := by
  rw [lexFrom, dif_neg (by omega), if_pos hb]

theorem extract_size' (s : ByteArray) (a b : Nat) (h : b ≤ s.size) : (s.extract a b).size = b - a := by
  rw [ByteArray.size_extract, Nat.min_eq_left h]

theorem remark_gt {s : ByteArray} {k : Nat} (h : k < s.size) (hb : bat s k = 35) : k + 1 ≤ endOf isRI s k := by
  have hp : isRI ((s[k]).toNat : Int) = true := by rw [← bat_eq s k h, hb]; rfl
  rw [endOf_step h hp]
  exact endOf_ge _ _ _

theorem lex_remark {s : ByteArray} {k : Nat} (h : k < s.size) (hb : bat s k = 35) : lexFrom s k = lexFrom s (endOf isRI s k) := by
  have hnb : ¬ isBlank (bat s k) = true := by rw [hb]; decide
  rw [lexFrom, dif_neg (by omega), if_neg hnb, if_pos hb, Nat.max_eq_right (remark_gt h hb)]

theorem lex_err {s : ByteArray} {k : Nat} {e : Int} (h : k < s.size) (hb : isBlank (bat s k) = false) (hr : ¬ bat s k = 35) (ht : tokAt s k = .error e) : lexFrom s k = .error (k, e) := by
  rw [lexFrom, dif_neg (by omega), if_neg (by simp [hb]), if_neg hr, ht]

/- A token is one byte long at least, and lies within the text. -/
theorem word_size {s : ByteArray} {k : Nat} {t : Tok} (h : k < s.size) (hl : isLI ((bat s k).toNat : Int) = true) (ht : wordTok s k = .ok t) : 1 ≤ t.text.size ∧ k + t.text.size ≤ s.size := by
  have hp : isWI ((s[k]).toNat : Int) = true := by rw [← bat_eq s k h]; unfold isWI; rw [hl]; rfl
  have h1 : k + 1 ≤ endOf isWI s k := by rw [endOf_step h hp]; exact endOf_ge _ _ _
  have h2 := endOf_le isWI s k (by omega)
  unfold wordTok at ht
  split at ht
  · cases ht
  · split at ht
    all_goals
      injection ht with ht
      subst ht
      simp only [extract_size' s k _ h2]
      omega

theorem num_size {s : ByteArray} {k : Nat} {t : Tok} (h : k < s.size) (hl : isDI ((bat s k).toNat : Int) = true) (ht : numTok s k = .ok t) : 1 ≤ t.text.size ∧ k + t.text.size ≤ s.size := by
  have hp : isDI ((s[k]).toNat : Int) = true := by rw [← bat_eq s k h]; exact hl
  have h1 : k + 1 ≤ endOf isDI s k := by rw [endOf_step h hp]; exact endOf_ge _ _ _
  have h2 := endOf_le isDI s k (by omega)
  unfold numTok at ht
  split at ht
  · cases ht
  · injection ht with ht
    subst ht
    simp only [extract_size' s k _ h2]
    omega

theorem pre_size {s : ByteArray} {k i : Nat} (hi : i < 3) (hk : k < s.size) (h : hasPre (s.extract k s.size) (pairAt i) = true) : k + 2 ≤ s.size := by
  unfold hasPre at h
  rw [Bool.and_eq_true] at h
  have := h.1
  rw [extract_size' s k _ (Nat.le_refl _), pairAt_size i hi] at this
  simp at this
  omega

theorem signFrom_size {s : ByteArray} {k : Nat} (h : k < s.size) : ∀ (n : Nat) (t : Tok), n ≤ 3 → signFrom s k n = .ok t → 1 ≤ t.text.size ∧ k + t.text.size ≤ s.size
  | 0, t, _, ht => by
    unfold signFrom signEnd at ht
    split at ht
    · injection ht with ht
      subst ht
      simp only [extract_size' s k _ (show k + 1 ≤ s.size by omega)]
      omega
    · cases ht
  | n + 1, t, hn, ht => by
    unfold signFrom at ht
    split at ht
    · rename_i hp
      have := pre_size (by omega) h hp
      injection ht with ht
      subst ht
      simp only [pairAt_size (2 - n) (by omega)]
      omega
    · exact signFrom_size h n t (by omega) ht

theorem tokAt_size {s : ByteArray} {k : Nat} {t : Tok} (h : k < s.size) (ht : tokAt s k = .ok t) : 1 ≤ t.text.size ∧ k + t.text.size ≤ s.size := by
  unfold tokAt at ht
  split at ht
  · exact word_size h (by assumption) ht
  · split at ht
    · exact num_size h (by assumption) ht
    · exact signFrom_size h 3 t (Nat.le_refl _) ht

theorem lex_tok {s : ByteArray} {k : Nat} {t : Tok} (h : k < s.size) (hb : isBlank (bat s k) = false) (hr : ¬ bat s k = 35) (ht : tokAt s k = .ok t) : lexFrom s k = more [t] (lexFrom s (k + t.text.size)) := by
  have := (tokAt_size h ht).1
  rw [lexFrom, dif_neg (by omega), if_neg (by simp [hb]), if_neg hr, ht]
  simp only
  rw [Nat.max_eq_right (by omega)]

end Go.Proofs.YtflhniiemmahmaaDoor
