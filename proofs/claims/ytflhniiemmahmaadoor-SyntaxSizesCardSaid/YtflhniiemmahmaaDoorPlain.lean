/- Plain facts on the account of lex.Tokens: what a token hangs on is the bytes from its place on, of these its own bytes and the one behind them. Nothing of the program is walked here. -/
import Derived.Test.YtflhniiemmahmaaDoorLex
namespace Go.Proofs.YtflhniiemmahmaaDoor
open Go.RowKit

abbrev Tri := Except Int (Nat × Nat × Nat)

def wordL (l : List UInt8) : Tri :=
  if 16 < runLen isWI l then .error 13 else if keyList.contains (l.take (runLen isWI l)) = true then .ok (2, runLen isWI l, 0) else .ok (1, runLen isWI l, 0)

def valL (l : List UInt8) : Nat → Nat
  | 0 => 0
  | n + 1 => valL l n * 10 + ((l.getD n 0).toNat - 48)

def isLO : Option UInt8 → Bool
  | some b => isLI (b.toNat : Int)
  | none => false

def badL (l : List UInt8) : Bool := (l.getD 0 0 == 48 && decide (1 < runLen isDI l)) || isLO (l[runLen isDI l]?)

def numL (l : List UInt8) : Tri :=
  if badL l = true ∨ 1099511627776 < valL l (runLen isDI l) then .error 12 else .ok (3, runLen isDI l, valL l (runLen isDI l))

def isPair (l : List UInt8) : Bool := l == [45, 62] || l == [60, 61] || l == [61, 61]

def signL (l : List UInt8) : Tri :=
  if isPair (l.take 2) = true then .ok (4, 2, 0) else if isSingle (l.getD 0 0) = true then .ok (4, 1, 0) else .error 11

def tokL (l : List UInt8) : Tri :=
  if isLI ((l.getD 0 0).toNat : Int) = true then wordL l else if isDI ((l.getD 0 0).toNat : Int) = true then numL l else signL l

def atPlace (s : ByteArray) (k : Nat) : Tri → Except Int Tok
  | .error e => .error e
  | .ok (kd, n, v) => .ok ⟨kd, s.extract k (k + n), v, k⟩

theorem bat_drop (s : ByteArray) (k i : Nat) : bat s (k + i) = (s.data.toList.drop k).getD i 0 := by
  unfold bat
  simp [List.getD_eq_getElem?_getD, List.getElem?_drop]

theorem bat_drop0 (s : ByteArray) (k : Nat) : bat s k = (s.data.toList.drop k).getD 0 0 := bat_drop s k 0

theorem extract_list (s : ByteArray) (a n : Nat) : (s.extract a (a + n)).data.toList = (s.data.toList.drop a).take n := by
  rw [ByteArray.data_extract, Array.toList_extract]
  simp [List.extract_eq_take_drop]

theorem wordL_eq (s : ByteArray) (k : Nat) : wordTok s k = atPlace s k (wordL (s.data.toList.drop k)) := by
  have e : endOf isWI s k = k + runLen isWI (s.data.toList.drop k) := rfl
  have e2 : endOf isWI s k - k = runLen isWI (s.data.toList.drop k) := by rw [e]; omega
  unfold wordTok wordL
  rw [e2, e]
  have hk : isKeyB (s.extract k (k + runLen isWI (s.data.toList.drop k))) = keyList.contains ((s.data.toList.drop k).take (runLen isWI (s.data.toList.drop k))) := by
    unfold isKeyB keyFrom
    rw [extract_list, List.drop_zero]
  rw [hk]
  split
  · rfl
  · split <;> rfl

theorem valL_eq (s : ByteArray) (k : Nat) : ∀ n, numTo s k n = valL (s.data.toList.drop k) n
  | 0 => rfl
  | n + 1 => by rw [numTo, valL, valL_eq s k n, bat_drop]

theorem isLO_at (s : ByteArray) (j : Nat) : isLO (s.data.toList[j]?) = (decide (j < s.size) && isLI ((bat s j).toNat : Int)) := by
  by_cases h : j < s.size
  · have hl : j < s.data.toList.length := by simpa using h
    have hb : bat s j = s.data.toList[j] := by unfold bat; rw [List.getD_eq_getElem?_getD, List.getElem?_eq_getElem hl]; rfl
    rw [List.getElem?_eq_getElem hl, hb]
    simp [isLO, h]
  · rw [List.getElem?_eq_none (by simp; omega)]
    simp [isLO, h]

theorem numL_eq (s : ByteArray) (k : Nat) : numTok s k = atPlace s k (numL (s.data.toList.drop k)) := by
  have e : endOf isDI s k = k + runLen isDI (s.data.toList.drop k) := rfl
  have e2 : endOf isDI s k - k = runLen isDI (s.data.toList.drop k) := by rw [e]; omega
  have hb : badForm s k = badL (s.data.toList.drop k) := by
    unfold badForm badL
    rw [List.getElem?_drop, ← e, isLO_at, ← bat_drop0]
    congr 2
    rw [e, Bool.eq_iff_iff]
    simp
  unfold numTok numL
  rw [e2, valL_eq, hb, e]
  split <;> rfl

theorem pre_list (s : ByteArray) (k i : Nat) (hi : i < 3) : hasPre (s.extract k s.size) (pairAt i) = ((s.data.toList.drop k).take 2 == (pairAt i).data.toList) := by
  have hx : (s.extract k s.size).data.toList = s.data.toList.drop k := by
    rcases Nat.le_total k s.size with h | h
    · have := extract_list s k (s.size - k)
      rw [show k + (s.size - k) = s.size by omega] at this
      rw [this, List.take_of_length_le (by simp)]
    · rw [List.drop_of_length_le (by simpa using h)]
      apply List.eq_nil_of_length_eq_zero
      have : (s.extract k s.size).data.toList.length = (s.extract k s.size).size := Array.length_toList
      rw [this, ByteArray.size_extract]
      omega
  have hsz : (s.extract k s.size).size = (s.data.toList.drop k).length := by rw [← hx]; exact Array.length_toList.symm
  have h2 := pairAt_size i hi
  have hp2 : (pairAt i).data.toList.length = 2 := by rw [Array.length_toList]; exact h2
  unfold hasPre
  rw [ByteArray.toList_eq, ByteArray.toList_eq, h2]
  have h0 := extract_list (s.extract k s.size) 0 2
  rw [Nat.zero_add] at h0
  rw [h0, List.drop_zero, hx, hsz, Bool.eq_iff_iff]
  simp only [Bool.and_eq_true, decide_eq_true_eq, beq_iff_eq]
  constructor
  · exact fun h => h.2
  · intro h
    refine ⟨?_, h⟩
    have := congrArg List.length h
    rw [hp2, List.length_take] at this
    omega

theorem bytes_ext {a b : ByteArray} (h : a.data.toList = b.data.toList) : a = b := by
  obtain ⟨⟨x⟩⟩ := a
  obtain ⟨⟨y⟩⟩ := b
  simp at h
  rw [h]

theorem pair_extract (s : ByteArray) (k i : Nat) (h : ((s.data.toList.drop k).take 2 == (pairAt i).data.toList) = true) : pairAt i = s.extract k (k + 2) := by
  apply bytes_ext
  rw [extract_list]
  exact (beq_iff_eq.1 h).symm

theorem signL_eq (s : ByteArray) (k : Nat) : signTok s k = atPlace s k (signL (s.data.toList.drop k)) := by
  have p0 := pre_list s k 0 (by omega)
  have p1 := pre_list s k 1 (by omega)
  have p2 := pre_list s k 2 (by omega)
  have d0 : (pairAt 0).data.toList = [45, 62] := rfl
  have d1 : (pairAt 1).data.toList = [60, 61] := rfl
  have d2 : (pairAt 2).data.toList = [61, 61] := rfl
  unfold signTok signFrom signFrom signFrom signFrom signEnd signL isPair
  simp only [show 2 - 2 = 0 by rfl, show 2 - 1 = 1 by rfl, show 2 - 0 = 2 by rfl]
  rw [p0, p1, p2, ← bat_drop0, d0, d1, d2]
  cases h0 : ((s.data.toList.drop k).take 2 == [45, 62])
  · cases h1 : ((s.data.toList.drop k).take 2 == [60, 61])
    · cases h2 : ((s.data.toList.drop k).take 2 == [61, 61])
      · simp only [Bool.false_eq_true, if_false, Bool.or_false]
        split <;> rfl
      · simp only [Bool.false_eq_true, if_false, Bool.false_or, if_true]
        rw [pair_extract s k 2 (by rw [d2]; exact h2)]
        rfl
    · simp only [Bool.false_eq_true, if_false, Bool.false_or, Bool.true_or, if_true]
      rw [pair_extract s k 1 (by rw [d1]; exact h1)]
      rfl
  · simp only [Bool.true_or, if_true]
    rw [pair_extract s k 0 (by rw [d0]; exact h0)]
    rfl

theorem tokL_eq (s : ByteArray) (k : Nat) : tokAt s k = atPlace s k (tokL (s.data.toList.drop k)) := by
  unfold tokAt tokL
  rw [← bat_drop0, wordL_eq, numL_eq, signL_eq]
  split
  · rfl
  · split <;> rfl

/- A run goes as far in another list that has its bytes, if the byte behind them ends it. -/
theorem runLen_congr {p : Int → Bool} : ∀ (n : Nat) {l l' : List UInt8}, runLen p l = n → l'.take n = l.take n → n ≤ l'.length → (∀ b, l'[n]? = some b → p (b.toNat : Int) = false) → runLen p l' = n
  | 0, _, l', _, _, _, hx => by
    cases l' with
    | nil => rfl
    | cons b r => rw [runLen, hx b rfl]; rfl
  | n + 1, l, l', h, ht, hn, hx => by
    cases l' with
    | nil => simp at hn
    | cons b' r' =>
      cases l with
      | nil => simp at ht
      | cons b r =>
        simp only [List.take_succ_cons, List.cons.injEq] at ht
        obtain ⟨rfl, ht⟩ := ht
        rw [runLen] at h
        cases hp : p (b'.toNat : Int)
        · rw [hp] at h; simp at h
        · rw [hp] at h
          simp only [if_true, Nat.add_right_cancel_iff] at h
          rw [runLen, hp, if_pos rfl, runLen_congr n h ht (by simpa using hn) (fun b hb => hx b (by simpa using hb))]

theorem runLen_stop {p : Int → Bool} : ∀ {l : List UInt8} {b : UInt8}, l[runLen p l]? = some b → p (b.toNat : Int) = false
  | [], b, h => by simp at h
  | c :: r, b, h => by
    cases hp : p (c.toNat : Int)
    · rw [runLen, hp] at h
      simp at h
      rw [← h, hp]
    · rw [runLen, hp, if_pos rfl] at h
      exact runLen_stop (l := r) (by simpa using h)

theorem valL_congr {l l' : List UInt8} : ∀ n, l'.take n = l.take n → valL l' n = valL l n
  | 0, _ => rfl
  | n + 1, h => by
    have h1 : l'.take n = l.take n := by
      have := congrArg (List.take n) h
      simpa [List.take_take] using this
    have h2 : l'.getD n 0 = l.getD n 0 := by
      have := congrArg (fun x => x.getD n 0) h
      simpa [List.getD_eq_getElem?_getD, List.getElem?_take] using this
    rw [valL, valL, valL_congr n h1, h2]

/- What may stand behind a token without touching it: nothing, what stood there, or a blank. -/
def Behind (l l' : List UInt8) (n : Nat) : Prop := l'[n]? = none ∨ l'[n]? = l[n]? ∨ l'[n]? = some 32 ∨ l'[n]? = some 10

theorem head_congr {l l' : List UInt8} {n : Nat} (hn : 1 ≤ n) (h : l'.take n = l.take n) : l'.getD 0 0 = l.getD 0 0 := by
  have := congrArg (fun x => x.getD 0 0) h
  simpa [List.getD_eq_getElem?_getD, List.getElem?_take, show 0 < n by omega] using this

theorem behind_run {p : Int → Bool} (h32 : p 32 = false) (h10 : p 10 = false) {l l' : List UInt8} (hb : Behind l l' (runLen p l)) : ∀ b, l'[runLen p l]? = some b → p (b.toNat : Int) = false := by
  intro b h
  rcases hb with h' | h' | h' | h'
  · rw [h'] at h; cases h
  · rw [h'] at h; exact runLen_stop h
  · rw [h'] at h; cases h; exact h32
  · rw [h'] at h; cases h; exact h10

theorem runLen_pos {p : Int → Bool} {l : List UInt8} (hl : l ≠ []) (h : p ((l.getD 0 0).toNat : Int) = true) : 1 ≤ runLen p l := by
  cases l with
  | nil => exact absurd rfl hl
  | cons b r =>
    have h' : p (b.toNat : Int) = true := h
    rw [runLen, h', if_pos rfl]
    omega

theorem tokL_pos {l : List UInt8} {kd n v : Nat} (hl : l ≠ []) (h : tokL l = .ok (kd, n, v)) : 1 ≤ n := by
  unfold tokL at h
  split at h
  · rename_i hh
    have := runLen_pos (p := isWI) hl (by unfold isWI; rw [hh]; rfl)
    unfold wordL at h
    split at h
    · cases h
    · split at h <;> (cases h; exact this)
  · split at h
    · rename_i hh
      have := runLen_pos (p := isDI) hl hh
      unfold numL at h
      split at h
      · cases h
      · cases h; exact this
    · unfold signL at h
      split at h
      · cases h; omega
      · split at h <;> cases h
        omega

theorem isLO_behind {l l' : List UInt8} {n : Nat} (hb : Behind l l' n) (h : isLO (l[n]?) = false) : isLO (l'[n]?) = false := by
  rcases hb with h' | h' | h' | h'
  · rw [h']; rfl
  · rw [h']; exact h
  · rw [h']; rfl
  · rw [h']; rfl

theorem take_two (l : List UInt8) : l.take 2 = (match l[0]?, l[1]? with | some a, some b => [a, b] | some a, none => [a] | _, _ => []) := by
  match l with
  | [] => rfl
  | [a] => rfl
  | a :: b :: r => rfl

theorem getElem0 {l l' : List UInt8} (h : l'.take 1 = l.take 1) : l'[0]? = l[0]? := by
  have := congrArg (fun x => x[0]?) h
  simpa [List.getElem?_take] using this

theorem pair_behind {l l' : List UInt8} (h : l'.take 1 = l.take 1) (hb : Behind l l' 1) (hp : isPair (l.take 2) = false) : isPair (l'.take 2) = false := by
  rw [take_two, getElem0 h]
  rcases hb with h' | h' | h' | h'
  · rw [h']
    cases l[0]? <;> simp [isPair]
  · rw [h', ← take_two]
    exact hp
  · rw [h']
    cases l[0]? <;> simp [isPair]
  · rw [h']
    cases l[0]? <;> simp [isPair]

/- A token hangs on its own bytes and the one behind them. -/
theorem tokL_congr {l l' : List UInt8} {kd n v : Nat} (hl : l ≠ []) (h : tokL l = .ok (kd, n, v)) (ht : l'.take n = l.take n) (hn : n ≤ l'.length) (hb : Behind l l' n) : tokL l' = .ok (kd, n, v) := by
  have hpos := tokL_pos hl h
  have hh := head_congr hpos ht
  unfold tokL at h ⊢
  rw [hh]
  split at h
  · rename_i hi
    rw [if_pos hi]
    have hrl : runLen isWI l = n := by
      unfold wordL at h
      split at h
      · cases h
      · split at h <;> (cases h; rfl)
    have hr : runLen isWI l' = n := runLen_congr n hrl ht hn (by have := behind_run (p := isWI) (by decide) (by decide) (l := l) (l' := l') (by rw [hrl]; exact hb); rw [hrl] at this; exact this)
    unfold wordL at h ⊢
    rw [hrl] at h
    rw [hr, ht]
    exact h
  · rename_i hi
    rw [if_neg hi]
    split at h
    · rename_i hd
      rw [if_pos hd]
      have hrl : runLen isDI l = n := by
        unfold numL at h
        split at h
        · cases h
        · cases h; rfl
      have hr : runLen isDI l' = n := runLen_congr n hrl ht hn (by have := behind_run (p := isDI) (by decide) (by decide) (l := l) (l' := l') (by rw [hrl]; exact hb); rw [hrl] at this; exact this)
      unfold numL at h ⊢
      rw [hrl] at h
      rw [hr, valL_congr n ht]
      split at h
      · cases h
      · rename_i hbad
        have hbad' : badL l' = false := by
          have h0 : badL l = false := by
            cases hb0 : badL l
            · rfl
            · exact absurd (Or.inl hb0) hbad
          unfold badL at h0 ⊢
          rw [hrl] at h0
          rw [hr, hh]
          simp only [Bool.or_eq_false_iff] at h0 ⊢
          exact ⟨h0.1, isLO_behind hb h0.2⟩
        rw [if_neg]
        · exact h
        · rintro (h1 | h1)
          · rw [hbad'] at h1; cases h1
          · exact hbad (Or.inr h1)
    · rename_i hd
      rw [if_neg hd]
      unfold signL at h ⊢
      rw [hh]
      split at h
      · rename_i hp
        cases h
        rw [ht, if_pos hp]
      · rename_i hp
        split at h
        · rename_i hs
          cases h
          rw [if_neg (by simp [pair_behind ht hb (by simpa using hp)]), if_pos hs]
        · cases h

end Go.Proofs.YtflhniiemmahmaaDoor
