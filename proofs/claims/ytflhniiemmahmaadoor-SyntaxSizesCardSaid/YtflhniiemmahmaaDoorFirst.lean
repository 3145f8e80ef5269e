/- Plain facts on faults: what stands ahead of the first fault is read without one, and what begins at its place has it at once. Nothing of the program is walked here. -/
import Derived.Test.YtflhniiemmahmaaDoorPlain
namespace Go.Proofs.YtflhniiemmahmaaDoor
open Go.RowKit

/- An induction along the rounds of the account. -/
theorem lex_ind {s : ByteArray} {P : Nat → LexRes → Prop}
    (hend : ∀ k, s.size ≤ k → P k (.ok [endTok s]))
    (hblank : ∀ k, k < s.size → isBlank (bat s k) = true → P (k + 1) (lexFrom s (k + 1)) → P k (lexFrom s (k + 1)))
    (hrem : ∀ k, k < s.size → bat s k = 35 → P (endOf isRI s k) (lexFrom s (endOf isRI s k)) → P k (lexFrom s (endOf isRI s k)))
    (herr : ∀ k e, k < s.size → isBlank (bat s k) = false → ¬ bat s k = 35 → tokAt s k = .error e → P k (.error (k, e)))
    (htok : ∀ k t, k < s.size → isBlank (bat s k) = false → ¬ bat s k = 35 → tokAt s k = .ok t → P (k + t.text.size) (lexFrom s (k + t.text.size)) → P k (more [t] (lexFrom s (k + t.text.size)))) :
    ∀ k, P k (lexFrom s k) := by
  intro k
  generalize hm : s.size - k = m
  induction m using Nat.strongRecOn generalizing k with
  | ind m ih =>
    rcases Nat.lt_or_ge k s.size with hk | hk
    · cases hb : isBlank (bat s k)
      · by_cases hr : bat s k = 35
        · rw [lex_remark hk hr]
          have := remark_gt hk hr
          exact hrem k hk hr (ih _ (by omega) _ rfl)
        · cases ht : tokAt s k with
          | error e => rw [lex_err hk hb hr ht]; exact herr k e hk hb hr ht
          | ok t =>
            rw [lex_tok hk hb hr ht]
            have := (tokAt_size hk ht).1
            exact htok k t hk hb hr ht (ih _ (by omega) _ rfl)
      · rw [lex_blank hk hb]
        exact hblank k hk hb (ih _ (by omega) _ rfl)
    · rw [lex_end hk]
      exact hend k hk

theorem more_error {ts : List Tok} {r : LexRes} {x : Nat × Int} (h : more ts r = .error x) : r = .error x := by
  cases r with
  | error e => exact h
  | ok t => cases h

theorem lex_fault {s : ByteArray} {k : Nat} {e : Int} : ∀ j, lexFrom s j = .error (k, e) → j ≤ k ∧ k < s.size ∧ isBlank (bat s k) = false ∧ ¬ bat s k = 35 ∧ tokAt s k = .error e := by
  apply lex_ind (P := fun j r => r = .error (k, e) → j ≤ k ∧ k < s.size ∧ isBlank (bat s k) = false ∧ ¬ bat s k = 35 ∧ tokAt s k = .error e)
  · intro j _ h; cases h
  · intro j _ _ ih h
    have := ih h
    exact ⟨by omega, this.2⟩
  · intro j hj hb ih h
    have := ih h
    have h2 := remark_gt hj hb
    exact ⟨by omega, this.2⟩
  · intro j e' hj hb hr ht h
    cases h
    exact ⟨Nat.le_refl _, hj, hb, hr, ht⟩
  · intro j t hj hb hr ht ih h
    have := ih (more_error h)
    have h2 := (tokAt_size hj ht).1
    exact ⟨by omega, this.2⟩

theorem prefix_list (s : ByteArray) (k : Nat) : (s.extract 0 k).data.toList = s.data.toList.take k := by
  have := extract_list s 0 k
  rwa [Nat.zero_add, List.drop_zero] at this

theorem suffix_list (s : ByteArray) (k : Nat) (h : k ≤ s.size) : (s.extract k s.size).data.toList = s.data.toList.drop k := by
  have := extract_list s k (s.size - k)
  rw [show k + (s.size - k) = s.size by omega] at this
  rw [this, List.take_of_length_le (by simp)]

theorem prefix_drop (s : ByteArray) (k j : Nat) : (s.extract 0 k).data.toList.drop j = (s.data.toList.drop j).take (k - j) := by
  rw [prefix_list, List.drop_take]

theorem bat_prefix (s : ByteArray) (k j : Nat) (h : j < k) : bat (s.extract 0 k) j = bat s j := by
  rw [bat_drop0, prefix_drop, bat_drop0]
  simp [List.getD_eq_getElem?_getD, show 0 < k - j by omega]

theorem drop_len (s : ByteArray) (k : Nat) : (s.data.toList.drop k).length = s.size - k := by simp

theorem drop_ne {s : ByteArray} {k : Nat} (h : k < s.size) : s.data.toList.drop k ≠ [] := by
  intro e
  have := drop_len s k
  rw [e] at this
  simp at this
  omega

/- Of a token in the text its three numbers, and how long it is. -/
theorem tok_three {s : ByteArray} {k : Nat} {t : Tok} (hk : k < s.size) (h : tokAt s k = .ok t) :
    ∃ kd n v, tokL (s.data.toList.drop k) = .ok (kd, n, v) ∧ t = ⟨kd, s.extract k (k + n), v, k⟩ ∧ t.text.size = n ∧ 1 ≤ n ∧ k + n ≤ s.size := by
  rw [tokL_eq] at h
  cases hx : tokL (s.data.toList.drop k) with
  | error e => rw [hx] at h; cases h
  | ok x =>
    obtain ⟨kd, n, v⟩ := x
    rw [hx] at h
    have ht : t = ⟨kd, s.extract k (k + n), v, k⟩ := by cases h; rfl
    have hs := tokAt_size hk ((tokL_eq s k).trans (by rw [hx]; exact h))
    have hpos := tokL_pos (drop_ne hk) hx
    have hsz : t.text.size = min (k + n) s.size - k := by rw [ht]; exact ByteArray.size_extract ..
    have hn : k + n ≤ s.size := by
      rcases Nat.lt_or_ge s.size (k + n) with hgt | hle
      · exfalso
        have hle2 : n ≤ (s.data.toList.drop k).length := by
          unfold tokL at hx
          split at hx
          · unfold wordL at hx
            split at hx
            · cases hx
            · split at hx <;> (cases hx; exact runLen_le _ _)
          · split at hx
            · unfold numL at hx
              split at hx
              · cases hx
              · cases hx; exact runLen_le _ _
            · unfold signL at hx
              split at hx
              · rename_i hp
                cases hx
                rcases Nat.lt_or_ge (s.data.toList.drop k).length 2 with h2 | h2
                · exfalso
                  unfold isPair at hp
                  simp only [Bool.or_eq_true, beq_iff_eq] at hp
                  have hl : ((s.data.toList.drop k).take 2).length = 2 := by rcases hp with (h | h) | h <;> rw [h] <;> rfl
                  rw [List.length_take] at hl
                  omega
                · exact h2
              · split at hx <;> cases hx
                rw [drop_len]; omega
        rw [drop_len] at hle2
        omega
      · exact hle
    exact ⟨kd, n, v, rfl, ht, by rw [hsz]; omega, hpos, hn⟩

theorem take_take_le {l : List UInt8} {m n : Nat} (h : n ≤ m) : (l.take m).take n = l.take n := by rw [List.take_take, Nat.min_eq_left h]

theorem runLen_take {p : Int → Bool} {l : List UInt8} {m : Nat} (h : runLen p l ≤ m) : runLen p (l.take m) = runLen p l := by
  refine runLen_congr _ rfl (take_take_le h) ?_ ?_
  · rw [List.length_take]
    have := runLen_le p l
    omega
  · intro b hb
    rw [List.getElem?_take] at hb
    split at hb
    · exact runLen_stop hb
    · cases hb

theorem tokL_take {l : List UInt8} {kd n v m : Nat} (hl : l ≠ []) (h : tokL l = .ok (kd, n, v)) (hn : n ≤ l.length) (hm : n ≤ m) : tokL (l.take m) = .ok (kd, n, v) := by
  refine tokL_congr hl h (take_take_le hm) (by rw [List.length_take]; omega) ?_
  rcases Nat.lt_or_ge n m with h1 | h1
  · right; left
    rw [List.getElem?_take, if_pos h1]
  · left
    rw [List.getElem?_take, if_neg (by omega)]

/- What stands ahead of a fault is read without one. -/
theorem lex_ahead {s : ByteArray} {k : Nat} {e : Int} : ∀ j, lexFrom s j = .error (k, e) → ∃ ts, lexFrom (s.extract 0 k) j = .ok ts := by
  apply lex_ind (P := fun j r => r = .error (k, e) → ∃ ts, lexFrom (s.extract 0 k) j = .ok ts)
  · intro j _ h; cases h
  · intro j hj hb ih h
    have hf := lex_fault (j + 1) h
    have hp : (s.extract 0 k).size = k := by rw [extract_size' s 0 k (by omega)]; omega
    obtain ⟨ts, hts⟩ := ih h
    exact ⟨ts, by rw [lex_blank (by omega) (by rw [bat_prefix s k j (by omega)]; exact hb)]; exact hts⟩
  · intro j hj hb ih h
    have hf := lex_fault _ h
    have hg := remark_gt hj hb
    have hp : (s.extract 0 k).size = k := by rw [extract_size' s 0 k (by omega)]; omega
    obtain ⟨ts, hts⟩ := ih h
    have hE : endOf isRI (s.extract 0 k) j = endOf isRI s j := by
      have e1 : endOf isRI s j = j + runLen isRI (s.data.toList.drop j) := rfl
      unfold endOf
      rw [prefix_drop, runLen_take (by omega)]
    exact ⟨ts, by rw [lex_remark (by omega) (by rw [bat_prefix s k j (by omega)]; exact hb), hE]; exact hts⟩
  · intro j e' hj hb hr ht h
    cases h
    have hp : (s.extract 0 k).size = k := by rw [extract_size' s 0 k (by omega)]; omega
    exact ⟨_, lex_end (by omega)⟩
  · intro j t hj hb hr ht ih h
    have h' := more_error h
    have hf := lex_fault _ h'
    obtain ⟨kd, n, v, h3, ht3, hn, hn1, hn2⟩ := tok_three hj ht
    rw [hn] at hf
    have hp : (s.extract 0 k).size = k := by rw [extract_size' s 0 k (by omega)]; omega
    obtain ⟨ts, hts⟩ := ih h'
    have htp : tokAt (s.extract 0 k) j = .ok ⟨kd, (s.extract 0 k).extract j (j + n), v, j⟩ := by
      rw [tokL_eq, prefix_drop, tokL_take (drop_ne hj) h3 (by rw [drop_len]; omega) (by omega)]
      rfl
    have hsz : ((s.extract 0 k).extract j (j + n)).size = n := by rw [extract_size' _ _ _ (by omega)]; omega
    have hb2 := bat_prefix s k j (by omega)
    refine ⟨[(⟨kd, (s.extract 0 k).extract j (j + n), v, j⟩ : Tok)] ++ ts, ?_⟩
    · rw [lex_tok (by omega) (by rw [hb2]; exact hb) (by rw [hb2]; exact hr) htp]
      simp only [hsz]
      rw [hn] at hts
      rw [hts]
      rfl

/- What begins at a fault's place has it at once. -/
theorem lex_behind {s : ByteArray} {k : Nat} {e : Int} (h : lexFrom s 0 = .error (k, e)) : lexFrom (s.extract k s.size) 0 = .error (0, e) := by
  obtain ⟨_, hk, hb, hr, ht⟩ := lex_fault 0 h
  have hl := suffix_list s k (by omega)
  have hb0 : bat (s.extract k s.size) 0 = bat s k := by
    rw [bat_drop0, List.drop_zero, hl, ← bat_drop0]
  have hsz : (s.extract k s.size).size = s.size - k := extract_size' _ _ _ (Nat.le_refl _)
  refine lex_err (by omega) (by rw [hb0]; exact hb) (by rw [hb0]; exact hr) ?_
  rw [tokL_eq] at ht ⊢
  rw [List.drop_zero, hl]
  cases hx : tokL (s.data.toList.drop k) with
  | error e' => rw [hx] at ht; exact ht
  | ok x => rw [hx] at ht; cases ht

end Go.Proofs.YtflhniiemmahmaaDoor
