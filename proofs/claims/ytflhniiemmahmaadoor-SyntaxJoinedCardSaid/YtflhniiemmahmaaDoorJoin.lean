/- Plain facts on texts that are joined by a line feed: the tokens of the first but for its End, then those of the second, further back. Nothing of the program is walked here. -/
import Derived.Test.YtflhniiemmahmaaDoorFirst
namespace Go.Proofs.YtflhniiemmahmaaDoor
open Go.RowKit

def joinB (a b : ByteArray) : ByteArray := a ++ ⟨#[10]⟩ ++ b

theorem joinB_list (a b : ByteArray) : (joinB a b).data.toList = a.data.toList ++ 10 :: b.data.toList := by
  unfold joinB
  rw [ByteArray.data_append, ByteArray.data_append]
  simp

theorem joinB_size (a b : ByteArray) : (joinB a b).size = a.size + b.size + 1 := by
  have h : (joinB a b).data.toList.length = (joinB a b).size := Array.length_toList
  have ha : a.data.toList.length = a.size := Array.length_toList
  have hb : b.data.toList.length = b.size := Array.length_toList
  rw [← h, joinB_list, List.length_append, List.length_cons]
  omega

theorem joinB_drop (a b : ByteArray) (j : Nat) (h : j ≤ a.size) : (joinB a b).data.toList.drop j = a.data.toList.drop j ++ 10 :: b.data.toList := by
  have ha : a.data.toList.length = a.size := Array.length_toList
  rw [joinB_list, List.drop_append_of_le_length (by omega)]

theorem joinB_drop2 (a b : ByteArray) (j : Nat) : (joinB a b).data.toList.drop (a.size + 1 + j) = b.data.toList.drop j := by
  have ha : a.data.toList.length = a.size := Array.length_toList
  rw [joinB_list, List.drop_append, List.drop_of_length_le (by omega), List.nil_append, show a.size + 1 + j - a.data.toList.length = j + 1 by omega, List.drop_succ_cons]

theorem bat_join (a b : ByteArray) (j : Nat) (h : j < a.size) : bat (joinB a b) j = bat a j := by
  rw [bat_drop0, joinB_drop a b j (by omega), bat_drop0]
  have := drop_ne h
  cases hl : a.data.toList.drop j with
  | nil => exact absurd hl this
  | cons c r => rfl

theorem bat_join2 (a b : ByteArray) (j : Nat) : bat (joinB a b) (a.size + 1 + j) = bat b j := by rw [bat_drop0, joinB_drop2, ← bat_drop0]

theorem bat_mid (a b : ByteArray) : bat (joinB a b) a.size = 10 := by
  have ha : a.data.toList.length = a.size := Array.length_toList
  rw [bat_drop0, joinB_drop a b a.size (Nat.le_refl _), List.drop_of_length_le (by omega)]
  rfl

theorem run_append {p : Int → Bool} (h10 : p 10 = false) (l r : List UInt8) : runLen p (l ++ 10 :: r) = runLen p l := by
  have hle := runLen_le p l
  refine runLen_congr _ rfl (by rw [List.take_append_of_le_length hle]) (by simp; omega) ?_
  intro b hb
  rcases Nat.lt_or_ge (runLen p l) l.length with h | h
  · rw [List.getElem?_append_left h] at hb
    exact runLen_stop hb
  · rw [List.getElem?_append_right h, show runLen p l - l.length = 0 by omega] at hb
    simp at hb
    rw [← hb]
    exact h10

theorem tokL_append {l r : List UInt8} {kd n v : Nat} (hl : l ≠ []) (h : tokL l = .ok (kd, n, v)) (hn : n ≤ l.length) : tokL (l ++ 10 :: r) = .ok (kd, n, v) := by
  refine tokL_congr hl h (by rw [List.take_append_of_le_length hn]) (by simp; omega) ?_
  rcases Nat.lt_or_ge n l.length with h1 | h1
  · right; left
    rw [List.getElem?_append_left h1]
  · right; right; right
    rw [List.getElem?_append_right h1, show n - l.length = 0 by omega]
    rfl

theorem more_ok {ts rs : List Tok} {r : LexRes} (h : more ts r = .ok rs) : ∃ r', r = .ok r' ∧ rs = ts ++ r' := by
  cases r with
  | error e => cases h
  | ok r' => cases h; exact ⟨r', rfl, rfl⟩

theorem lex_ok_ne {s : ByteArray} : ∀ j ts, lexFrom s j = .ok ts → ts ≠ [] := by
  intro j
  apply lex_ind (P := fun _ r => ∀ ts, r = .ok ts → ts ≠ [])
  · intro k _ ts h; cases h; simp
  · intro k _ _ ih; exact ih
  · intro k _ _ ih; exact ih
  · intro k e _ _ _ _ ts h; cases h
  · intro k t _ _ _ _ ih ts h
    obtain ⟨r', hr', rfl⟩ := more_ok h
    simp

theorem lex_len {s : ByteArray} : ∀ j ts, j ≤ s.size → lexFrom s j = .ok ts → ts.length + j ≤ s.size + 1 := by
  intro j
  apply lex_ind (s := s) (P := fun j r => ∀ ts, j ≤ s.size → r = .ok ts → ts.length + j ≤ s.size + 1)
  · intro k _ ts _ h; cases h; simp; omega
  · intro k hk _ ih ts _ h
    have := ih ts (by omega) h
    omega
  · intro k hk hb ih ts _ h
    have := ih ts (endOf_le _ _ _ (by omega)) h
    have := remark_gt hk hb
    omega
  · intro k e _ _ _ _ ts _ h; cases h
  · intro k t hk _ _ ht ih ts _ h
    obtain ⟨r', hr', rfl⟩ := more_ok h
    have h2 := tokAt_size hk ht
    have := ih r' (by omega) hr'
    simp
    omega

theorem lex_place {s : ByteArray} : ∀ j ts, j ≤ s.size → lexFrom s j = .ok ts → ∀ t ∈ ts, t.place ≤ s.size ∧ t.place + t.text.size ≤ s.size := by
  intro j
  apply lex_ind (s := s) (P := fun j r => ∀ ts, j ≤ s.size → r = .ok ts → ∀ t ∈ ts, t.place ≤ s.size ∧ t.place + t.text.size ≤ s.size)
  · intro k _ ts _ h t ht
    cases h
    obtain rfl : t = endTok s := by simpa using ht
    exact ⟨Nat.le_refl _, Nat.le_refl _⟩
  · intro k hk _ ih ts _ h
    exact ih ts (by omega) h
  · intro k hk hb ih ts _ h
    exact ih ts (endOf_le _ _ _ (by omega)) h
  · intro k e _ _ _ _ ts _ h; cases h
  · intro k t hk _ _ ht ih ts _ h u hu
    obtain ⟨r', hr', rfl⟩ := more_ok h
    obtain ⟨kd, n, v, h3, ht3, hn, hn1, hn2⟩ := tok_three hk ht
    rcases List.mem_append.1 hu with hu | hu
    · obtain rfl : u = t := by simpa using hu
      have hp : u.place = k := by rw [ht3]
      exact ⟨by omega, by omega⟩
    · exact ih r' (by omega) hr' u hu

/- The first text's part. -/
theorem join_first (a b : ByteArray) : ∀ j ts, j ≤ a.size → lexFrom a j = .ok ts → lexFrom (joinB a b) j = more ts.dropLast (lexFrom (joinB a b) a.size) := by
  have hsz := joinB_size a b
  intro j
  apply lex_ind (s := a) (P := fun j r => ∀ ts, j ≤ a.size → r = .ok ts → lexFrom (joinB a b) j = more ts.dropLast (lexFrom (joinB a b) a.size))
  · intro k hk ts hj h
    obtain rfl : k = a.size := by omega
    cases h
    simp [more_nil]
  · intro k hk hb ih ts _ h
    rw [lex_blank (by omega) (by rw [bat_join a b k hk]; exact hb)]
    exact ih ts (by omega) h
  · intro k hk hb ih ts _ h
    have hE : endOf isRI (joinB a b) k = endOf isRI a k := by
      unfold endOf
      rw [joinB_drop a b k (by omega), run_append (by decide)]
    rw [lex_remark (by omega) (by rw [bat_join a b k hk]; exact hb), hE]
    exact ih ts (endOf_le _ _ _ (by omega)) h
  · intro k e _ _ _ _ ts _ h; cases h
  · intro k t hk hb hr ht ih ts _ h
    obtain ⟨r', hr', rfl⟩ := more_ok h
    obtain ⟨kd, n, v, h3, ht3, hn, hn1, hn2⟩ := tok_three hk ht
    have hx : (joinB a b).extract k (k + n) = a.extract k (k + n) := by
      apply bytes_ext
      rw [extract_list, extract_list, joinB_drop a b k (by omega), List.take_append_of_le_length (by rw [drop_len]; omega)]
    have htp : tokAt (joinB a b) k = .ok t := by
      rw [tokL_eq, joinB_drop a b k (by omega), tokL_append (drop_ne hk) h3 (by rw [drop_len]; omega), ht3]
      show Except.ok _ = _
      rw [hx]
    have hne := lex_ok_ne _ _ hr'
    rw [lex_tok (by omega) (by rw [bat_join a b k hk]; exact hb) (by rw [bat_join a b k hk]; exact hr) htp, ih r' (by omega) hr', more_more,
      List.singleton_append, List.singleton_append, List.dropLast_cons_of_ne_nil hne]

def shiftTok (d : Nat) (t : Tok) : Tok := ⟨t.kind, t.text, t.num, t.place + d⟩

/- The second text's part. -/
theorem join_second (a b : ByteArray) : ∀ j ts, lexFrom b j = .ok ts → lexFrom (joinB a b) (a.size + 1 + j) = .ok (ts.map (shiftTok (a.size + 1))) := by
  have hsz := joinB_size a b
  intro j
  apply lex_ind (s := b) (P := fun j r => ∀ ts, r = .ok ts → lexFrom (joinB a b) (a.size + 1 + j) = .ok (ts.map (shiftTok (a.size + 1))))
  · intro k hk ts h
    cases h
    rw [lex_end (by omega)]
    simp [endTok, shiftTok, hsz]
    omega
  · intro k hk hb ih ts h
    rw [lex_blank (by omega) (by rw [bat_join2]; exact hb), Nat.add_assoc]
    exact ih ts h
  · intro k hk hb ih ts h
    have hE : endOf isRI (joinB a b) (a.size + 1 + k) = a.size + 1 + endOf isRI b k := by
      unfold endOf
      rw [joinB_drop2, Nat.add_assoc (a.size + 1)]
    rw [lex_remark (by omega) (by rw [bat_join2]; exact hb), hE]
    exact ih ts h
  · intro k e _ _ _ _ ts h; cases h
  · intro k t hk hb hr ht ih ts h
    obtain ⟨r', hr', rfl⟩ := more_ok h
    obtain ⟨kd, n, v, h3, ht3, hn, hn1, hn2⟩ := tok_three hk ht
    have hx : (joinB a b).extract (a.size + 1 + k) (a.size + 1 + k + n) = b.extract k (k + n) := by
      apply bytes_ext
      rw [extract_list, extract_list, joinB_drop2]
    have htp : tokAt (joinB a b) (a.size + 1 + k) = .ok (shiftTok (a.size + 1) t) := by
      rw [tokL_eq, joinB_drop2, h3, ht3]
      show Except.ok _ = Except.ok _
      rw [hx]
      simp [shiftTok]
      omega
    have hst : (shiftTok (a.size + 1) t).text.size = t.text.size := rfl
    rw [lex_tok (by omega) (by rw [bat_join2]; exact hb) (by rw [bat_join2]; exact hr) htp, hst, Nat.add_assoc, ih r' hr']
    rfl

theorem lex_join {a b : ByteArray} {ta tb : List Tok} (ha : lexAll a = .ok ta) (hb : lexAll b = .ok tb) (h : a.size + b.size + 1 ≤ 16384) :
    lexAll (joinB a b) = .ok (ta.dropLast ++ tb.map (shiftTok (a.size + 1))) := by
  have hsz := joinB_size a b
  have ha' : lexFrom a 0 = .ok ta := by unfold lexAll at ha; rw [if_neg (by omega)] at ha; exact ha
  have hb' : lexFrom b 0 = .ok tb := by unfold lexAll at hb; rw [if_neg (by omega)] at hb; exact hb
  unfold lexAll
  rw [if_neg (by omega), join_first a b 0 ta (by omega) ha', lex_blank (by omega) (by rw [bat_mid]; decide)]
  have := join_second a b 0 tb hb'
  rw [Nat.add_zero] at this
  rw [this]
  rfl

end Go.Proofs.YtflhniiemmahmaaDoor
