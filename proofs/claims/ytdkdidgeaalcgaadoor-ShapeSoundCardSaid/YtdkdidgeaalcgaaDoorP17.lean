/- Plain facts on the account of lex.Tokens: what a token hangs on is the bytes from its place on, of these its own bytes and the one behind them. Nothing of the program is walked here. Plain facts on faults: what stands ahead of the first fault is read without one, and what begins at its place has it at once. Nothing of the program is walked here. -/
import Derived.Test.YtdkdidgeaalcgaaDoorP02
namespace Go.Proofs.YtdkdidgeaalcgaaDoor
section
open Go.RowKit

abbrev Tri := Except Int (Nat × Nat × Nat)

def wordL (l : List UInt8) : Tri :=
  if 16 < runLen isWI l then .error 13 else if keyList.contains (l.take (runLen isWI l)) = true then .ok (2, runLen isWI l, 0) else .ok (1, runLen isWI l, 0)

def valL (l : List UInt8) : Nat → Nat
  | 0 => 0
  | n + 1 => valL l n * 10 + ((l.getD n 0).toNat - 48)

def isLO : Option UInt8 → Bool
  | some b => isLI (b.toNat : Int)
  | none => false

def badL (l : List UInt8) : Bool := (l.getD 0 0 == 48 && decide (1 < runLen isDI l)) || isLO (l[runLen isDI l]?)

def numL (l : List UInt8) : Tri :=
  if badL l = true ∨ 1099511627776 < valL l (runLen isDI l) then .error 12 else .ok (3, runLen isDI l, valL l (runLen isDI l))

def isPair (l : List UInt8) : Bool := l == [45, 62] || l == [60, 61] || l == [61, 61]

def signL (l : List UInt8) : Tri :=
  if isPair (l.take 2) = true then .ok (4, 2, 0) else if isSingle (l.getD 0 0) = true then .ok (4, 1, 0) else .error 11

def tokL (l : List UInt8) : Tri :=
  if isLI ((l.getD 0 0).toNat : Int) = true then wordL l else if isDI ((l.getD 0 0).toNat : Int) = true then numL l else signL l

def atPlace (s : ByteArray) (k : Nat) : Tri → Except Int Tok
  | .error e => .error e
  | .ok (kd, n, v) => .ok ⟨kd, s.extract k (k + n), v, k⟩

theorem bat_drop (s : ByteArray) (k i : Nat) : bat s (k + i) = (s.data.toList.drop k).getD i 0 := by
  unfold bat
  simp [List.getD_eq_getElem?_getD, List.getElem?_drop]

theorem bat_drop0 (s : ByteArray) (k : Nat) : bat s k = (s.data.toList.drop k).getD 0 0 := bat_drop s k 0

theorem extract_list (s : ByteArray) (a n : Nat) : (s.extract a (a + n)).data.toList = (s.data.toList.drop a).take n := by
  rw [ByteArray.data_extract, Array.toList_extract]
  simp [List.extract_eq_take_drop]

theorem wordL_eq (s : ByteArray) (k : Nat) : wordTok s k = atPlace s k (wordL (s.data.toList.drop k)) := by
  have e : endOf isWI s k = k + runLen isWI (s.data.toList.drop k) := rfl
  have e2 : endOf isWI s k - k = runLen isWI (s.data.toList.drop k) := by rw [e]; omega
  unfold wordTok wordL
  rw [e2, e]
  have hk : isKeyB (s.extract k (k + runLen isWI (s.data.toList.drop k))) = keyList.contains ((s.data.toList.drop k).take (runLen isWI (s.data.toList.drop k))) := by
    unfold isKeyB keyFrom
    rw [extract_list, List.drop_zero]
  rw [hk]
  split
  · rfl
  · split <;> rfl

theorem valL_eq (s : ByteArray) (k : Nat) : ∀ n, numTo s k n = valL (s.data.toList.drop k) n
  | 0 => rfl
  | n + 1 => by rw [numTo, valL, valL_eq s k n, bat_drop]

theorem isLO_at (s : ByteArray) (j : Nat) : isLO (s.data.toList[j]?) = (decide (j < s.size) && isLI ((bat s j).toNat : Int)) := by
  by_cases h : j < s.size
  · have hl : j < s.data.toList.length := by simpa using h
    have hb : bat s j = s.data.toList[j] := by unfold bat; rw [List.getD_eq_getElem?_getD, List.getElem?_eq_getElem hl]; rfl
    rw [List.getElem?_eq_getElem hl, hb]
    simp [isLO, h]
  · rw [List.getElem?_eq_none (by simp; omega)]
    simp [isLO, h]

theorem numL_eq (s : ByteArray) (k : Nat) : numTok s k = atPlace s k (numL (s.data.toList.drop k)) := by
  have e : endOf isDI s k = k + runLen isDI (s.data.toList.drop k) := rfl
  have e2 : endOf isDI s k - k = runLen isDI (s.data.toList.drop k) := by rw [e]; omega
  have hb : badForm s k = badL (s.data.toList.drop k) := by
    unfold badForm badL
    rw [List.getElem?_drop, ← e, isLO_at, ← bat_drop0]
    congr 2
    rw [e, Bool.eq_iff_iff]
    simp
  unfold numTok numL
  rw [e2, valL_eq, hb, e]
  split <;> rfl

theorem pre_list (s : ByteArray) (k i : Nat) (hi : i < 3) : hasPre (s.extract k s.size) (pairAt i) = ((s.data.toList.drop k).take 2 == (pairAt i).data.toList) := by
  have hx : (s.extract k s.size).data.toList = s.data.toList.drop k := by
    rcases Nat.le_total k s.size with h | h
    · have := extract_list s k (s.size - k)
      rw [show k + (s.size - k) = s.size by omega] at this
      rw [this, List.take_of_length_le (by simp)]
    · rw [List.drop_of_length_le (by simpa using h)]
      apply List.eq_nil_of_length_eq_zero
      have : (s.extract k s.size).data.toList.length = (s.extract k s.size).size := Array.length_toList
      rw [this, ByteArray.size_extract]
      omega
  have hsz : (s.extract k s.size).size = (s.data.toList.drop k).length := by rw [← hx]; exact Array.length_toList.symm
  have h2 := pairAt_size i hi
  have hp2 : (pairAt i).data.toList.length = 2 := by rw [Array.length_toList]; exact h2
  unfold hasPre
  rw [ByteArray.toList_eq, ByteArray.toList_eq, h2]
  have h0 := extract_list (s.extract k s.size) 0 2
  rw [Nat.zero_add] at h0
  rw [h0, List.drop_zero, hx, hsz, Bool.eq_iff_iff]
  simp only [Bool.and_eq_true, decide_eq_true_eq, beq_iff_eq]
  constructor
  · exact fun h => h.2
  · intro h
    refine ⟨?_, h⟩
    have := congrArg List.length h
    rw [hp2, List.length_take] at this
    omega

theorem bytes_ext {a b : ByteArray} (h : a.data.toList = b.data.toList) : a = b := by
  obtain ⟨⟨x⟩⟩ := a
  obtain ⟨⟨y⟩⟩ := b
  simp at h
  rw [h]

theorem pair_extract (s : ByteArray) (k i : Nat) (h : ((s.data.toList.drop k).take 2 == (pairAt i).data.toList) = true) : pairAt i = s.extract k (k + 2) := by
  apply bytes_ext
  rw [extract_list]
  exact (beq_iff_eq.1 h).symm

theorem signL_eq (s : ByteArray) (k : Nat) : signTok s k = atPlace s k (signL (s.data.toList.drop k)) := by
  have p0 := pre_list s k 0 (by omega)
  have p1 := pre_list s k 1 (by omega)
  have p2 := pre_list s k 2 (by omega)
  have d0 : (pairAt 0).data.toList = [45, 62] := rfl
  have d1 : (pairAt 1).data.toList = [60, 61] := rfl
  have d2 : (pairAt 2).data.toList = [61, 61] := rfl
  unfold signTok signFrom signFrom signFrom signFrom signEnd signL isPair
  simp only [show 2 - 2 = 0 by rfl, show 2 - 1 = 1 by rfl, show 2 - 0 = 2 by rfl]
  rw [p0, p1, p2, ← bat_drop0, d0, d1, d2]
  cases h0 : ((s.data.toList.drop k).take 2 == [45, 62])
  · cases h1 : ((s.data.toList.drop k).take 2 == [60, 61])
    · cases h2 : ((s.data.toList.drop k).take 2 == [61, 61])
      · simp only [Bool.false_eq_true, if_false, Bool.or_false]
        split <;> rfl
      · simp only [Bool.false_eq_true, if_false, Bool.false_or, if_true]
        rw [pair_extract s k 2 (by rw [d2]; exact h2)]
        rfl
    · simp only [Bool.false_eq_true, if_false, Bool.false_or, Bool.true_or, if_true]
      rw [pair_extract s k 1 (by rw [d1]; exact h1)]
      rfl
  · simp only [Bool.true_or, if_true]
    rw [pair_extract s k 0 (by rw [d0]; exact h0)]
    rfl

theorem tokL_eq (s : ByteArray) (k : Nat) : tokAt s k = atPlace s k (tokL (s.data.toList.drop k)) := by
  unfold tokAt tokL
  rw [← bat_drop0, wordL_eq, numL_eq, signL_eq]
  split
  · rfl
  · split <;> rfl

/- A run goes as far in another list that has its bytes, if the byte behind them ends it. -/
theorem runLen_congr {p : Int → Bool} : ∀ (n : Nat) {l l' : List UInt8}, runLen p l = n → l'.take n = l.take n → n ≤ l'.length → (∀ b, l'[n]? = some b → p (b.toNat : Int) = false) → runLen p l' = n
  | 0, _, l', _, _, _, hx => by
    cases l' with
    | nil => rfl
    | cons b r => rw [runLen, hx b rfl]; rfl
  | n + 1, l, l', h, ht, hn, hx => by
    cases l' with
    | nil => simp at hn
    | cons b' r' =>
      cases l with
      | nil => simp at ht
      | cons b r =>
        simp only [List.take_succ_cons, List.cons.injEq] at ht
        obtain ⟨rfl, ht⟩ := ht
        rw [runLen] at h
        cases hp : p (b'.toNat : Int)
        · rw [hp] at h; simp at h
        · rw [hp] at h
          simp only [if_true, Nat.add_right_cancel_iff] at h
          rw [runLen, hp, if_pos rfl, runLen_congr n h ht (by simpa using hn) (fun b hb => hx b (by simpa using hb))]

theorem runLen_stop {p : Int → Bool} : ∀ {l : List UInt8} {b : UInt8}, l[runLen p l]? = some b → p (b.toNat : Int) = false
  | [], b, h => by simp at h
  | c :: r, b, h => by
    cases hp : p (c.toNat : Int)
    · rw [runLen, hp] at h
      simp at h
      rw [← h, hp]
    · rw [runLen, hp, if_pos rfl] at h
      exact runLen_stop (l := r) (by simpa using h)

theorem valL_congr {l l' : List UInt8} : ∀ n, l'.take n = l.take n → valL l' n = valL l n
  | 0, _ => rfl
  | n + 1, h => by
    have h1 : l'.take n = l.take n := by
      have := congrArg (List.take n) h
      simpa [List.take_take] using this
    have h2 : l'.getD n 0 = l.getD n 0 := by
      have := congrArg (fun x => x.getD n 0) h
      simpa [List.getD_eq_getElem?_getD, List.getElem?_take] using this
    rw [valL, valL, valL_congr n h1, h2]

/- What may stand behind a token without touching it: nothing, what stood there, or a blank. -/
def Behind (l l' : List UInt8) (n : Nat) : Prop := l'[n]? = none ∨ l'[n]? = l[n]? ∨ l'[n]? = some 32 ∨ l'[n]? = some 10

theorem head_congr {l l' : List UInt8} {n : Nat} (hn : 1 ≤ n) (h : l'.take n = l.take n) : l'.getD 0 0 = l.getD 0 0 := by
  have := congrArg (fun x => x.getD 0 0) h
  simpa [List.getD_eq_getElem?_getD, List.getElem?_take, show 0 < n by omega] using this

theorem behind_run {p : Int → Bool} (h32 : p 32 = false) (h10 : p 10 = false) {l l' : List UInt8} (hb : Behind l l' (runLen p l)) : ∀ b, l'[runLen p l]? = some b → p (b.toNat : Int) = false := by
  intro b h
  rcases hb with h' | h' | h' | h'
  · rw [h'] at h; cases h
  · rw [h'] at h; exact runLen_stop h
  · rw [h'] at h; cases h; exact h32
  · rw [h'] at h; cases h; exact h10

theorem runLen_pos {p : Int → Bool} {l : List UInt8} (hl : l ≠ []) (h : p ((l.getD 0 0).toNat : Int) = true) : 1 ≤ runLen p l := by
  cases l with
  | nil => exact absurd rfl hl
  | cons b r =>
    have h' : p (b.toNat : Int) = true := h
    rw [runLen, h', if_pos rfl]
    omega

theorem tokL_pos {l : List UInt8} {kd n v : Nat} (hl : l ≠ []) (h : tokL l = .ok (kd, n, v)) : 1 ≤ n := by
  unfold tokL at h
  split at h
  · rename_i hh
    have := runLen_pos (p := isWI) hl (by unfold isWI; rw [hh]; rfl)
    unfold wordL at h
    split at h
    · cases h
    · split at h <;> (cases h; exact this)
  · split at h
    · rename_i hh
      have := runLen_pos (p := isDI) hl hh
      unfold numL at h
      split at h
      · cases h
      · cases h; exact this
    · unfold signL at h
      split at h
      · cases h; omega
      · split at h <;> cases h
        omega

theorem isLO_behind {l l' : List UInt8} {n : Nat} (hb : Behind l l' n) (h : isLO (l[n]?) = false) : isLO (l'[n]?) = false := by
  rcases hb with h' | h' | h' | h'
  · rw [h']; rfl
  · rw [h']; exact h
  · rw [h']; rfl
  · rw [h']; rfl

theorem take_two (l : List UInt8) : l.take 2 = (match l[0]?, l[1]? with | some a, some b => [a, b] | some a, none => [a] | _, _ => []) := by
  match l with
  | [] => rfl
  | [a] => rfl
  | a :: b :: r => rfl

theorem getElem0 {l l' : List UInt8} (h : l'.take 1 = l.take 1) : l'[0]? = l[0]? := by
  have := congrArg (fun x => x[0]?) h
  simpa [List.getElem?_take] using this

theorem pair_behind {l l' : List UInt8} (h : l'.take 1 = l.take 1) (hb : Behind l l' 1) (hp : isPair (l.take 2) = false) : isPair (l'.take 2) = false := by
  rw [take_two, getElem0 h]
  rcases hb with h' | h' | h' | h'
  · rw [h']
    cases l[0]? <;> simp [isPair]
  · rw [h', ← take_two]
    exact hp
  · rw [h']
    cases l[0]? <;> simp [isPair]
  · rw [h']
    cases l[0]? <;> simp [isPair]

/- A token hangs on its own bytes and the one behind them. -/
theorem tokL_congr {l l' : List UInt8} {kd n v : Nat} (hl : l ≠ []) (h : tokL l = .ok (kd, n, v)) (ht : l'.take n = l.take n) (hn : n ≤ l'.length) (hb : Behind l l' n) : tokL l' = .ok (kd, n, v) := by
  have hpos := tokL_pos hl h
  have hh := head_congr hpos ht
  unfold tokL at h ⊢
  rw [hh]
  split at h
  · rename_i hi
    rw [if_pos hi]
    have hrl : runLen isWI l = n := by
      unfold wordL at h
      split at h
      · cases h
      · split at h <;> (cases h; rfl)
    have hr : runLen isWI l' = n := runLen_congr n hrl ht hn (by have := behind_run (p := isWI) (by decide) (by decide) (l := l) (l' := l') (by rw [hrl]; exact hb); rw [hrl] at this; exact this)
    unfold wordL at h ⊢
    rw [hrl] at h
    rw [hr, ht]
    exact h
  · rename_i hi
    rw [if_neg hi]
    split at h
    · rename_i hd
      rw [if_pos hd]
      have hrl : runLen isDI l = n := by
        unfold numL at h
        split at h
        · cases h
        · cases h; rfl
      have hr : runLen isDI l' = n := runLen_congr n hrl ht hn (by have := behind_run (p := isDI) (by decide) (by decide) (l := l) (l' := l') (by rw [hrl]; exact hb); rw [hrl] at this; exact this)
      unfold numL at h ⊢
      rw [hrl] at h
      rw [hr, valL_congr n ht]
      split at h
      · cases h
      · rename_i hbad
        have hbad' : badL l' = false := by
          have h0 : badL l = false := by
            cases hb0 : badL l
            · rfl
            · exact absurd (Or.inl hb0) hbad
          unfold badL at h0 ⊢
          rw [hrl] at h0
          rw [hr, hh]
          simp only [Bool.or_eq_false_iff] at h0 ⊢
          exact ⟨h0.1, isLO_behind hb h0.2⟩
        rw [if_neg]
        · exact h
        · rintro (h1 | h1)
          · rw [hbad'] at h1; cases h1
          · exact hbad (Or.inr h1)
    · rename_i hd
      rw [if_neg hd]
      unfold signL at h ⊢
      rw [hh]
      split at h
      · rename_i hp
        cases h
        rw [ht, if_pos hp]
      · rename_i hp
        split at h
        · rename_i hs
          cases h
          rw [if_neg (by simp [pair_behind ht hb (by simpa using hp)]), if_pos hs]
        · cases h
end

section
open Go.RowKit

/- An induction along the rounds of the account. -/
theorem lex_ind {s : ByteArray} {P : Nat → LexRes → Prop}
    (hend : ∀ k, s.size ≤ k → P k (.ok [endTok s]))
    (hblank : ∀ k, k < s.size → isBlank (bat s k) = true → P (k + 1) (lexFrom s (k + 1)) → P k (lexFrom s (k + 1)))
    (hrem : ∀ k, k < s.size → bat s k = 35 → P (endOf isRI s k) (lexFrom s (endOf isRI s k)) → P k (lexFrom s (endOf isRI s k)))
    (herr : ∀ k e, k < s.size → isBlank (bat s k) = false → ¬ bat s k = 35 → tokAt s k = .error e → P k (.error (k, e)))
    (htok : ∀ k t, k < s.size → isBlank (bat s k) = false → ¬ bat s k = 35 → tokAt s k = .ok t → P (k + t.text.size) (lexFrom s (k + t.text.size)) → P k (more [t] (lexFrom s (k + t.text.size)))) :
    ∀ k, P k (lexFrom s k) := by
  intro k
  generalize hm : s.size - k = m
  induction m using Nat.strongRecOn generalizing k with
  | ind m ih =>
    rcases Nat.lt_or_ge k s.size with hk | hk
    · cases hb : isBlank (bat s k)
      · by_cases hr : bat s k = 35
        · rw [lex_remark hk hr]
          have := remark_gt hk hr
          exact hrem k hk hr (ih _ (by omega) _ rfl)
        · cases ht : tokAt s k with
          | error e => rw [lex_err hk hb hr ht]; exact herr k e hk hb hr ht
          | ok t =>
            rw [lex_tok hk hb hr ht]
            have := (tokAt_size hk ht).1
            exact htok k t hk hb hr ht (ih _ (by omega) _ rfl)
      · rw [lex_blank hk hb]
        exact hblank k hk hb (ih _ (by omega) _ rfl)
    · rw [lex_end hk]
      exact hend k hk

theorem more_error {ts : List Tok} {r : LexRes} {x : Nat × Int} (h : more ts r = .error x) : r = .error x := by
  cases r with
  | error e => exact h
  | ok t => cases h

theorem lex_fault {s : ByteArray} {k : Nat} {e : Int} : ∀ j, lexFrom s j = .error (k, e) → j ≤ k ∧ k < s.size ∧ isBlank (bat s k) = false ∧ ¬ bat s k = 35 ∧ tokAt s k = .error e := by
  apply lex_ind (P := fun j r => r = .error (k, e) → j ≤ k ∧ k < s.size ∧ isBlank (bat s k) = false ∧ ¬ bat s k = 35 ∧ tokAt s k = .error e)
  · intro j _ h; cases h
  · intro j _ _ ih h
    have := ih h
    exact ⟨by omega, this.2⟩
  · intro j hj hb ih h
    have := ih h
    have h2 := remark_gt hj hb
    exact ⟨by omega, this.2⟩
  · intro j e' hj hb hr ht h
    cases h
    exact ⟨Nat.le_refl _, hj, hb, hr, ht⟩
  · intro j t hj hb hr ht ih h
    have := ih (more_error h)
    have h2 := (tokAt_size hj ht).1
    exact ⟨by omega, this.2⟩

theorem prefix_list (s : ByteArray) (k : Nat) : (s.extract 0 k).data.toList = s.data.toList.take k := by
  have := extract_list s 0 k
  rwa [Nat.zero_add, List.drop_zero] at this

theorem suffix_list (s : ByteArray) (k : Nat) (h : k ≤ s.size) : (s.extract k s.size).data.toList = s.data.toList.drop k := by
  have := extract_list s k (s.size - k)
  rw [show k + (s.size - k) = s.size by omega] at this
  rw [this, List.take_of_length_le (by simp)]

theorem prefix_drop (s : ByteArray) (k j : Nat) : (s.extract 0 k).data.toList.drop j = (s.data.toList.drop j).take (k - j) := by
  rw [prefix_list, List.drop_take]

theorem bat_prefix (s : ByteArray) (k j : Nat) (h : j < k) : bat (s.extract 0 k) j = bat s j := by
  rw [bat_drop0, prefix_drop, bat_drop0]
  simp [List.getD_eq_getElem?_getD, show 0 < k - j by omega]

theorem drop_len (s : ByteArray) (k : Nat) : (s.data.toList.drop k).length = s.size - k := by simp

theorem drop_ne {s : ByteArray} {k : Nat} (h : k < s.size) : s.data.toList.drop k ≠ [] := by
  intro e
  have := drop_len s k
  rw [e] at this
  simp at this
  omega

/- Of a token in the text its three numbers, and how long it is. -/
theorem tok_three {s : ByteArray} {k : Nat} {t : Tok} (hk : k < s.size) (h : tokAt s k = .ok t) :
    ∃ kd n v, tokL (s.data.toList.drop k) = .ok (kd, n, v) ∧ t = ⟨kd, s.extract k (k + n), v, k⟩ ∧ t.text.size = n ∧ 1 ≤ n ∧ k + n ≤ s.size := by
  rw [tokL_eq] at h
  cases hx : tokL (s.data.toList.drop k) with
  | error e => rw [hx] at h; cases h
  | ok x =>
    obtain ⟨kd, n, v⟩ := x
    rw [hx] at h
    have ht : t = ⟨kd, s.extract k (k + n), v, k⟩ := by cases h; rfl
    have hs := tokAt_size hk ((tokL_eq s k).trans (by rw [hx]; exact h))
    have hpos := tokL_pos (drop_ne hk) hx
    have hsz : t.text.size = min (k + n) s.size - k := by rw [ht]; exact ByteArray.size_extract ..
    have hn : k + n ≤ s.size := by
      rcases Nat.lt_or_ge s.size (k + n) with hgt | hle
      · exfalso
        have hle2 : n ≤ (s.data.toList.drop k).length := by
          unfold tokL at hx
          split at hx
          · unfold wordL at hx
            split at hx
            · cases hx
            · split at hx <;> (cases hx; exact runLen_le _ _)
          · split at hx
            · unfold numL at hx
              split at hx
              · cases hx
              · cases hx; exact runLen_le _ _
            · unfold signL at hx
              split at hx
              · rename_i hp
                cases hx
                rcases Nat.lt_or_ge (s.data.toList.drop k).length 2 with h2 | h2
                · exfalso
                  unfold isPair at hp
                  simp only [Bool.or_eq_true, beq_iff_eq] at hp
                  have hl : ((s.data.toList.drop k).take 2).length = 2 := by rcases hp with (h | h) | h <;> rw [h] <;> rfl
                  rw [List.length_take] at hl
                  omega
                · exact h2
              · split at hx <;> cases hx
                rw [drop_len]; omega
        rw [drop_len] at hle2
        omega
      · exact hle
    exact ⟨kd, n, v, rfl, ht, by rw [hsz]; omega, hpos, hn⟩

theorem take_take_le {l : List UInt8} {m n : Nat} (h : n ≤ m) : (l.take m).take n = l.take n := by rw [List.take_take, Nat.min_eq_left h]

theorem runLen_take {p : Int → Bool} {l : List UInt8} {m : Nat} (h : runLen p l ≤ m) : runLen p (l.take m) = runLen p l := by
  refine runLen_congr _ rfl (take_take_le h) ?_ ?_
  · rw [List.length_take]
    have := runLen_le p l
    omega
  · intro b hb
    rw [List.getElem?_take] at hb
    split at hb
    · exact runLen_stop hb
    · cases hb

theorem tokL_take {l : List UInt8} {kd n v m : Nat} (hl : l ≠ []) (h : tokL l = .ok (kd, n, v)) (hn : n ≤ l.length) (hm : n ≤ m) : tokL (l.take m) = .ok (kd, n, v) := by
  refine tokL_congr hl h (take_take_le hm) (by rw [List.length_take]; omega) ?_
  rcases Nat.lt_or_ge n m with h1 | h1
  · right; left
    rw [List.getElem?_take, if_pos h1]
  · left
    rw [List.getElem?_take, if_neg (by omega)]

/- What stands ahead of a fault is read without one. -/
theorem lex_ahead {s : ByteArray} {k : Nat} {e : Int} : ∀ j, lexFrom s j = .error (k, e) → ∃ ts, lexFrom (s.extract 0 k) j = .ok ts := by
  apply lex_ind (P := fun j r => r = .error (k, e) → ∃ ts, lexFrom (s.extract 0 k) j = .ok ts)
  · intro j _ h; cases h
  · intro j hj hb ih h
    have hf := lex_fault (j + 1) h
    have hp : (s.extract 0 k).size = k := by rw [extract_size' s 0 k (by omega)]; omega
    obtain ⟨ts, hts⟩ := ih h
    exact ⟨ts, by rw [lex_blank (by omega) (by rw [bat_prefix s k j (by omega)]; exact hb)]; exact hts⟩
  · intro j hj hb ih h
    have hf := lex_fault _ h
    have hg := remark_gt hj hb
    have hp : (s.extract 0 k).size = k := by rw [extract_size' s 0 k (by omega)]; omega
    obtain ⟨ts, hts⟩ := ih h
    have hE : endOf isRI (s.extract 0 k) j = endOf isRI s j := by
      have e1 : endOf isRI s j = j + runLen isRI (s.data.toList.drop j) := rfl
      unfold endOf
      rw [prefix_drop, runLen_take (by omega)]
    exact ⟨ts, by rw [lex_remark (by omega) (by rw [bat_prefix s k j (by omega)]; exact hb), hE]; exact hts⟩
  · intro j e' hj hb hr ht h
    cases h
    have hp : (s.extract 0 k).size = k := by rw [extract_size' s 0 k (by omega)]; omega
    exact ⟨_, lex_end (by omega)⟩
  · intro j t hj hb hr ht ih h
    have h' := more_error h
    have hf := lex_fault _ h'
    obtain ⟨kd, n, v, h3, ht3, hn, hn1, hn2⟩ := tok_three hj ht
    rw [hn] at hf
    have hp : (s.extract 0 k).size = k := by rw [extract_size' s 0 k (by omega)]; omega
    obtain ⟨ts, hts⟩ := ih h'
    have htp : tokAt (s.extract 0 k) j = .ok ⟨kd, (s.extract 0 k).extract j (j + n), v, j⟩ := by
      rw [tokL_eq, prefix_drop, tokL_take (drop_ne hj) h3 (by rw [drop_len]; omega) (by omega)]
      rfl
    have hsz : ((s.extract 0 k).extract j (j + n)).size = n := by rw [extract_size' _ _ _ (by omega)]; omega
    have hb2 := bat_prefix s k j (by omega)
    refine ⟨[(⟨kd, (s.extract 0 k).extract j (j + n), v, j⟩ : Tok)] ++ ts, ?_⟩
    · rw [lex_tok (by omega) (by rw [hb2]; exact hb) (by rw [hb2]; exact hr) htp]
      simp only [hsz]
      rw [hn] at hts
      rw [hts]
      rfl

/- What begins at a fault's place has it at once. -/
theorem lex_behind {s : ByteArray} {k : Nat} {e : Int} (h : lexFrom s 0 = .error (k, e)) : lexFrom (s.extract k s.size) 0 = .error (0, e) := by
  obtain ⟨_, hk, hb, hr, ht⟩ := lex_fault 0 h
  have hl := suffix_list s k (by omega)
  have hb0 : bat (s.extract k s.size) 0 = bat s k := by
    rw [bat_drop0, List.drop_zero, hl, ← bat_drop0]
  have hsz : (s.extract k s.size).size = s.size - k := extract_size' _ _ _ (Nat.le_refl _)
  refine lex_err (by omega) (by rw [hb0]; exact hb) (by rw [hb0]; exact hr) ?_
  rw [tokL_eq] at ht ⊢
  rw [List.drop_zero, hl]
  cases hx : tokL (s.data.toList.drop k) with
  | error e' => rw [hx] at ht; exact ht
  | ok x => rw [hx] at ht; cases ht
end

end Go.Proofs.YtdkdidgeaalcgaaDoor
