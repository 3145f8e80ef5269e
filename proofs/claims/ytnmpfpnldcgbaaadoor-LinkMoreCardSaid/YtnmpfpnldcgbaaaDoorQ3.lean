/- Plain facts on tokens that are written with a blank behind each: they are read as the same tokens, but for their places. Nothing of the program is walked here. Two texts whose tokens are alike but for places give alike trees, or the same fault; and tokens that are written with blanks and remarks around them are the same tokens. Nothing of the program is walked here. The fault that is told is the first one: the tokens ahead of its place, whatever stands behind them, are at fault there or later, or not at all. Nothing of the program is walked here. Two texts that are read, one behind the other, are read as the declarations of both. Nothing of the program is walked here. The contract of Find on an image. A function more, that nobody names: linking comes to the same. Nothing of the program is walked here. A text with a function more behind it, whose name is given: its tree is the first one's with that function behind. Nothing of the program is walked here. With a function more, that nobody names, linking tells the same place, side and error. Nothing of the program is walked here. The contract of lychgatelaw08.uses on a tree in memory. The contract of lex.IsName in a world that holds the tables of lex: it returns what the plain function says and leaves the world as it was. -/
import Derived.Test.YtnmpfpnldcgbaaaDoorQ2
import Derived.Test.YtnmpfpnldcgbaaaDoorQ1
import Derived.Test.YtnmpfpnldcgbaaaDoorP01
import Derived.Test.YtnmpfpnldcgbaaaDoorP25
namespace Go.Proofs.YtnmpfpnldcgbaaaDoor
section
open Go.RowKit

def joinT (ts : List Tok) : List UInt8 := ts.flatMap fun t => t.text.data.toList ++ [32]

def strip (t : Tok) : Nat × ByteArray × Nat := (t.kind, t.text, t.num)

theorem joinT_cons (t : Tok) (ts : List Tok) : joinT (t :: ts) = t.text.data.toList ++ 32 :: joinT ts := by simp [joinT]

theorem drop_more {S : ByteArray} {q n : Nat} {l r : List UInt8} (h : S.data.toList.drop q = l ++ r) (hn : l.length = n) : S.data.toList.drop (q + n) = r := by
  rw [← List.drop_drop, h, List.drop_append, List.drop_of_length_le (by omega), List.nil_append, show n - l.length = 0 by omega, List.drop_zero]

theorem lt_of_drop {S : ByteArray} {q : Nat} {b : UInt8} {r : List UInt8} (h : S.data.toList.drop q = b :: r) : q < S.size ∧ bat S q = b := by
  constructor
  · have := congrArg List.length h
    rw [drop_len, List.length_cons] at this
    omega
  · rw [bat_drop0, h]; rfl

theorem lex_again {s : ByteArray} : ∀ j ts, lexFrom s j = .ok ts → ∀ (S : ByteArray) (q : Nat), S.data.toList.drop q = joinT ts → ∃ ts', lexFrom S q = .ok ts' ∧ ts'.map strip = ts.map strip := by
  intro j
  apply lex_ind (s := s) (P := fun j r => ∀ ts, r = .ok ts → ∀ (S : ByteArray) (q : Nat), S.data.toList.drop q = joinT ts → ∃ ts', lexFrom S q = .ok ts' ∧ ts'.map strip = ts.map strip)
  · intro k _ ts h S q hq
    cases h
    have hq' : S.data.toList.drop q = 32 :: [] := hq
    obtain ⟨h1, h2⟩ := lt_of_drop hq'
    have h3 : S.size = q + 1 := by
      have := congrArg List.length hq'
      rw [drop_len] at this
      simp at this
      omega
    exact ⟨[endTok S], by rw [lex_blank h1 (by rw [h2]; decide), lex_end (by omega)], rfl⟩
  · intro k _ _ ih; exact ih
  · intro k _ _ ih; exact ih
  · intro k e _ _ _ _ ts h; cases h
  · intro k t hk hb hr ht ih ts h S q hq
    obtain ⟨r', hr', rfl⟩ := more_ok h
    obtain ⟨kd, n, v, h3, ht3, hn, hn1, hn2⟩ := tok_three hk ht
    have hT : t.text.data.toList = (s.data.toList.drop k).take n := by rw [ht3]; exact extract_list s k n
    have hTl : t.text.data.toList.length = n := by rw [hT, List.length_take, drop_len]; omega
    have hq' : S.data.toList.drop q = t.text.data.toList ++ 32 :: joinT r' := by rw [hq, List.singleton_append, joinT_cons]
    have htk : (S.data.toList.drop q).take n = (s.data.toList.drop k).take n := by
      rw [hq', List.take_append_of_le_length (by omega), ← hTl, List.take_length, hT]
      congr 1
      rw [List.length_take, drop_len]
      omega
    have h4 : tokL (S.data.toList.drop q) = .ok (kd, n, v) := by
      refine tokL_congr (drop_ne hk) h3 htk (by rw [hq', List.length_append]; omega) ?_
      right; right; left
      rw [hq', List.getElem?_append_right (by omega), show n - t.text.data.toList.length = 0 by omega]
      rfl
    have hhd := head_congr hn1 htk
    have hbq : bat S q = bat s k := by rw [bat_drop0, hhd, ← bat_drop0]
    have hqs : q + n + 1 ≤ S.size := by
      have := congrArg List.length hq'
      rw [drop_len, List.length_append, List.length_cons] at this
      omega
    have hx : S.extract q (q + n) = t.text := by
      apply bytes_ext
      rw [extract_list, htk, hT]
    have htok : tokAt S q = .ok ⟨kd, t.text, v, q⟩ := by
      rw [tokL_eq, h4]
      show Except.ok _ = _
      rw [hx]
    have hnext := drop_more hq' hTl
    obtain ⟨h5, h6⟩ := lt_of_drop hnext
    have hnext2 : S.data.toList.drop (q + n + 1) = joinT r' := by
      rw [← List.drop_drop, hnext]
      rfl
    obtain ⟨ts', h7, h8⟩ := ih r' hr' S (q + n + 1) hnext2
    refine ⟨[⟨kd, t.text, v, q⟩] ++ ts', ?_, ?_⟩
    · rw [lex_tok (by omega) (by rw [hbq]; exact hb) (by rw [hbq]; exact hr) htok]
      simp only [hn]
      rw [lex_blank h5 (by rw [h6]; decide), h7]
      rfl
    · rw [List.map_append, List.map_append, h8]
      congr 1
      have h9 : t.kind = kd ∧ t.num = v := by rw [ht3]; exact ⟨rfl, rfl⟩
      simp [strip, h9.1, h9.2]

theorem joinT_snoc (ts : List Tok) (t : Tok) : joinT (ts ++ [t]) = joinT ts ++ (t.text.data.toList ++ [32]) := by simp [joinT]

theorem joinT_take (ts : List Tok) (k : Nat) (hk : k < ts.length) : joinT (ts.take (k + 1)) = joinT (ts.take k) ++ (ts[k].text.data.toList ++ [32]) := by
  rw [List.take_succ_eq_append_getElem hk, joinT_snoc]

theorem cat_list (a b : ByteArray) : (a ++ b).data.toList = a.data.toList ++ b.data.toList := by
  rw [ByteArray.data_append]
  simp
end

section
open Go.RowKit

theorem Al.append {ρ : Nat → Nat → Prop} {a a' b b' : List Tok} (h : Al ρ a a') (h' : Al ρ b b') : Al ρ (a ++ b) (a' ++ b') := by
  induction h with
  | nil => exact h'
  | cons ht _ ih => exact .cons ht ih
theorem Al.length {ρ : Nat → Nat → Prop} {a a' : List Tok} (h : Al ρ a a') : a.length = a'.length := by
  induction h with
  | nil => rfl
  | cons _ _ ih => simp [ih]

/- A list that ends with what no reader takes is read within. -/
theorem unit_full {ρ : Nat → Nat → Prop} {l l' : List Tok} (h : Al ρ l l') (hend : ∃ t ∈ l, ¬ Con t) :
    (∃ xs xs' k k', unitP l = .ok (.mk 0 e0 0 0 xs, k) ∧ unitP l' = .ok (.mk 0 e0 0 0 xs', k') ∧ TsR ρ xs xs') ∨ (∃ p p' e, unitP l = .error (p, e) ∧ unitP l' = .error (p', e) ∧ ρ p p' ∧ ∃ t ∈ l, p = t.place) := by
  have h1 := unitF_s (x := []) (x' := []) (l.length + 1) (l'.length + 1) h (by simp) (by simp)
  rw [List.append_nil, List.append_nil] at h1
  rcases h1 with ⟨a, a', d, k, d', k', e1, e2, hv, _⟩ | ⟨p, p', e, e1, e2, hr, hm⟩ | ⟨hc, _⟩
  · exact .inl ⟨a, a', _, _, by unfold unitP; exact bd_ok e1 _, by unfold unitP; exact bd_ok e2 _, hv⟩
  · exact .inr ⟨p, p', e, by unfold unitP; exact bd_err e1 _, by unfold unitP; exact bd_err e2 _, hr, hm⟩
  · obtain ⟨t, ht, hn⟩ := hend
    exact absurd (hc t ht) hn

theorem parse_full {ρ : Nat → Nat → Prop} {l l' : List Tok} (h : Al ρ l l') (hend : ∃ t ∈ l, ¬ Con t) :
    (∃ xs xs', parseToks l = (.mk 0 e0 0 0 xs, 0, 0) ∧ parseToks l' = (.mk 0 e0 0 0 xs', 0, 0) ∧ TsR ρ xs xs') ∨ (∃ p p' e, parseToks l = (zeroT, p, e) ∧ parseToks l' = (zeroT, p', e) ∧ ρ p p') ∨ (parseToks l = (zeroT, 0, 22) ∧ parseToks l' = (zeroT, 0, 22)) := by
  rcases unit_full h hend with ⟨xs, xs', k, k', e1, e2, hv⟩ | ⟨p, p', e, e1, e2, hr, _⟩
  · have hz : (T.mk 0 e0 0 0 xs).size = (T.mk 0 e0 0 0 xs').size := by rw [size_mk, size_mk, TsR.sizes hv]
    by_cases hb : 4096 < (T.mk 0 e0 0 0 xs).size
    · exact .inr (.inr ⟨by unfold parseToks; rw [e1]; exact if_pos hb, by unfold parseToks; rw [e2]; exact if_pos (hz ▸ hb)⟩)
    · exact .inl ⟨xs, xs', by unfold parseToks; rw [e1]; exact if_neg hb, by unfold parseToks; rw [e2]; exact if_neg (hz ▸ hb), hv⟩
  · exact .inr (.inl ⟨p, p', e, by unfold parseToks; rw [e1], by unfold parseToks; rw [e2], hr⟩)

theorem lex_end_mem {s : ByteArray} : ∀ j ts, lexFrom s j = .ok ts → endTok s ∈ ts := by
  intro j
  apply lex_ind (s := s) (P := fun _ r => ∀ ts, r = .ok ts → endTok s ∈ ts)
  · intro k _ ts h; cases h; simp
  · intro k _ _ ih; exact ih
  · intro k _ _ ih; exact ih
  · intro k e _ _ _ _ ts h; cases h
  · intro k t _ _ _ _ ih ts h
    obtain ⟨r', hr', rfl⟩ := more_ok h
    exact List.mem_append_right _ (ih r' hr')
theorem end_nc (s : ByteArray) : ¬ Con (endTok s) := by rintro (h | h | h) <;> first | (simp [endTok] at h; done) | exact absurd (show 0 < (ByteArray.mk #[]).size from h) (by decide)
theorem lexAll_from {s : ByteArray} {ts : List Tok} (h : lexAll s = .ok ts) : lexFrom s 0 = .ok ts ∧ s.size ≤ 16384 := by
  unfold lexAll at h
  split at h
  · cases h
  · exact ⟨h, by omega⟩
theorem lexAll_end {s : ByteArray} {ts : List Tok} (h : lexAll s = .ok ts) : ∃ t ∈ ts, ¬ Con t := ⟨_, lex_end_mem 0 ts (lexAll_from h).1, end_nc s⟩

theorem parseB_ok {s : ByteArray} {ts : List Tok} (h : lexAll s = .ok ts) : parseB s = parseToks ts := by unfold parseB; rw [h]
theorem parseB_err {s : ByteArray} {p : Nat} {e : Int} (h : lexAll s = .error (p, e)) : parseB s = (zeroT, p, e) := by unfold parseB; rw [h]

/- Tokens with blanks and remarks around each. -/
def joinX (ts : List Tok) : List UInt8 := ts.flatMap fun t => 10 :: (t.text.data.toList ++ [32, 35, 120, 10])
theorem joinX_cons (t : Tok) (ts : List Tok) : joinX (t :: ts) = 10 :: (t.text.data.toList ++ 32 :: 35 :: 120 :: 10 :: joinX ts) := by simp [joinX]
theorem joinX_snoc (ts : List Tok) (t : Tok) : joinX (ts ++ [t]) = joinX ts ++ (10 :: (t.text.data.toList ++ [32, 35, 120, 10])) := by simp [joinX]
theorem joinX_take (ts : List Tok) (k : Nat) (hk : k < ts.length) : joinX (ts.take (k + 1)) = joinX (ts.take k) ++ (10 :: (ts[k].text.data.toList ++ [32, 35, 120, 10])) := by
  rw [List.take_succ_eq_append_getElem hk, joinX_snoc]

theorem lex_gapX {S : ByteArray} {q : Nat} {r : List UInt8} (h : S.data.toList.drop q = 32 :: 35 :: 120 :: 10 :: r) : lexFrom S q = lexFrom S (q + 4) ∧ S.data.toList.drop (q + 4) = r := by
  have d1 : S.data.toList.drop (q + 1) = 35 :: 120 :: 10 :: r := by rw [← List.drop_drop, h]; rfl
  have d3 : S.data.toList.drop (q + 1 + 2) = 10 :: r := by rw [← List.drop_drop, d1]; rfl
  have d4 : S.data.toList.drop (q + 4) = r := by rw [show q + 4 = q + 1 + 2 + 1 by omega, ← List.drop_drop, d3]; rfl
  obtain ⟨a0, b0⟩ := lt_of_drop h
  obtain ⟨a1, b1⟩ := lt_of_drop d1
  obtain ⟨a3, b3⟩ := lt_of_drop d3
  have hE : endOf isRI S (q + 1) = q + 1 + 2 := by
    unfold endOf
    rw [d1]
    rfl
  exact ⟨by rw [lex_blank a0 (by rw [b0]; decide), lex_remark a1 b1, hE, lex_blank a3 (by rw [b3]; decide)], d4⟩

theorem lex_blanks {s : ByteArray} : ∀ j ts, lexFrom s j = .ok ts → ∀ (S : ByteArray) (q : Nat), S.data.toList.drop q = joinX ts → ∃ ts', lexFrom S q = .ok ts' ∧ Al (fun _ _ => True) ts ts' := by
  intro j
  apply lex_ind (s := s) (P := fun j r => ∀ ts, r = .ok ts → ∀ (S : ByteArray) (q : Nat), S.data.toList.drop q = joinX ts → ∃ ts', lexFrom S q = .ok ts' ∧ Al (fun _ _ => True) ts ts')
  · intro k _ ts h S q hq
    cases h
    have hq' : S.data.toList.drop q = 10 :: 32 :: 35 :: 120 :: 10 :: [] := hq
    obtain ⟨h1, h2⟩ := lt_of_drop hq'
    have hd : S.data.toList.drop (q + 1) = 32 :: 35 :: 120 :: 10 :: [] := by rw [← List.drop_drop, hq']; rfl
    obtain ⟨h3, h4⟩ := lex_gapX hd
    have h5 : S.size ≤ q + 1 + 4 := by
      have := congrArg List.length h4
      rw [drop_len] at this
      simp at this
      omega
    exact ⟨[endTok S], by rw [lex_blank h1 (by rw [h2]; decide), h3, lex_end h5], .cons ⟨rfl, rfl, rfl, trivial⟩ .nil⟩
  · intro k _ _ ih; exact ih
  · intro k _ _ ih; exact ih
  · intro k e _ _ _ _ ts h; cases h
  · intro k t hk hb hr ht ih ts h S q0 hq0
    obtain ⟨r', hr', rfl⟩ := more_ok h
    obtain ⟨kd, n, v, h3, ht3, hn, hn1, hn2⟩ := tok_three hk ht
    have hT : t.text.data.toList = (s.data.toList.drop k).take n := by rw [ht3]; exact extract_list s k n
    have hTl : t.text.data.toList.length = n := by rw [hT, List.length_take, drop_len]; omega
    rw [List.singleton_append, joinX_cons] at hq0
    obtain ⟨g0, g1⟩ := lt_of_drop hq0
    obtain ⟨q, rfl⟩ : ∃ q, q = q0 + 1 := ⟨_, rfl⟩
    have hq' : S.data.toList.drop (q0 + 1) = t.text.data.toList ++ 32 :: 35 :: 120 :: 10 :: joinX r' := by rw [← List.drop_drop, hq0]; rfl
    rw [lex_blank g0 (by rw [g1]; decide)]
    generalize q0 + 1 = q at hq' ⊢
    have htk : (S.data.toList.drop q).take n = (s.data.toList.drop k).take n := by
      rw [hq', List.take_append_of_le_length (by omega), ← hTl, List.take_length, hT]
      congr 1
      rw [List.length_take, drop_len]
      omega
    have h4 : tokL (S.data.toList.drop q) = .ok (kd, n, v) := by
      refine tokL_congr (drop_ne hk) h3 htk (by rw [hq', List.length_append]; omega) ?_
      right; right; left
      rw [hq', List.getElem?_append_right (by omega), show n - t.text.data.toList.length = 0 by omega]
      rfl
    have hhd := head_congr hn1 htk
    have hbq : bat S q = bat s k := by rw [bat_drop0, hhd, ← bat_drop0]
    have hqs : q + n + 1 ≤ S.size := by
      have := congrArg List.length hq'
      rw [drop_len, List.length_append, List.length_cons] at this
      omega
    have hx : S.extract q (q + n) = t.text := by
      apply bytes_ext
      rw [extract_list, htk, hT]
    have htok : tokAt S q = .ok ⟨kd, t.text, v, q⟩ := by
      rw [tokL_eq, h4]
      show Except.ok _ = _
      rw [hx]
    have hnext := drop_more hq' hTl
    obtain ⟨h5, h6⟩ := lex_gapX hnext
    obtain ⟨ts', h7, h8⟩ := ih r' hr' S (q + n + 4) h6
    refine ⟨[⟨kd, t.text, v, q⟩] ++ ts', ?_, ?_⟩
    · rw [lex_tok (by omega) (by rw [hbq]; exact hb) (by rw [hbq]; exact hr) htok]
      simp only [hn]
      rw [h5, h7]
      rfl
    · have h9 : t.kind = kd ∧ t.num = v := by rw [ht3]; exact ⟨rfl, rfl⟩
      exact .cons ⟨h9.1, rfl, h9.2, trivial⟩ h8

/- What SyntaxBlanks asks of the two texts. -/
theorem parse_blanks {s S : ByteArray} {ts : List Tok} (h : lexAll s = .ok ts) (hS : S.data.toList = joinX ts) (hz : S.size ≤ 16384) :
    ∃ t t' p p' e, parseB s = (t, p, e) ∧ parseB S = (t', p', e) ∧ TR (fun _ _ => True) t t' := by
  obtain ⟨ts', h1, h2⟩ := lex_blanks 0 ts (lexAll_from h).1 S 0 hS
  have h3 : lexAll S = .ok ts' := by unfold lexAll; rw [if_neg (by omega)]; exact h1
  rw [parseB_ok h, parseB_ok h3]
  rcases parse_full h2 (lexAll_end h) with ⟨xs, xs', e1, e2, hv⟩ | ⟨p, p', e, e1, e2, _⟩ | ⟨e1, e2⟩
  · exact ⟨_, _, _, _, _, e1, e2, TR.mk trivial hv⟩
  · exact ⟨_, _, _, _, _, e1, e2, TR.mk trivial .nil⟩
  · exact ⟨_, _, _, _, _, e1, e2, TR.mk trivial .nil⟩
end

section
open Go.RowKit

theorem lex_ge {s : ByteArray} : ∀ j ts, j ≤ s.size → lexFrom s j = .ok ts → ∀ t ∈ ts, j ≤ t.place := by
  intro j
  apply lex_ind (s := s) (P := fun j r => ∀ ts, j ≤ s.size → r = .ok ts → ∀ t ∈ ts, j ≤ t.place)
  · intro k _ ts hk h t ht
    cases h
    obtain rfl : t = endTok s := by simpa using ht
    exact hk
  · intro k hk _ ih ts _ h t ht
    have := ih ts (by omega) h t ht
    omega
  · intro k hk hb ih ts _ h t ht
    have := ih ts (endOf_le _ _ _ (by omega)) h t ht
    have := remark_gt hk hb
    omega
  · intro k e _ _ _ _ ts _ h; cases h
  · intro k t hk _ _ ht ih ts _ h u hu
    obtain ⟨r', hr', rfl⟩ := more_ok h
    obtain ⟨kd, n, v, h3, ht3, hn, hn1, hn2⟩ := tok_three hk ht
    rcases List.mem_append.1 hu with hu | hu
    · obtain rfl : u = t := by simpa using hu
      have hp : u.place = k := by rw [ht3]
      omega
    · have := ih r' (by omega) hr' u hu
      omega

def headB (s : ByteArray) (p : Nat) (tail : ByteArray) : ByteArray := s.extract 0 p ++ ⟨#[32]⟩ ++ tail
theorem headB_list (s : ByteArray) (p : Nat) (tail : ByteArray) : (headB s p tail).data.toList = s.data.toList.take p ++ 32 :: tail.data.toList := by
  unfold headB
  rw [ByteArray.data_append, ByteArray.data_append]
  have := extract_list s 0 p
  rw [Nat.zero_add, List.drop_zero] at this
  simp
theorem headB_drop (s : ByteArray) (p : Nat) (tail : ByteArray) (j : Nat) (hp : p ≤ s.size) (hj : j ≤ p) : (headB s p tail).data.toList.drop j = (s.data.toList.drop j).take (p - j) ++ 32 :: tail.data.toList := by
  have h1 : s.data.toList.length = s.size := Array.length_toList
  rw [headB_list, List.drop_append_of_le_length (by rw [List.length_take]; omega), List.drop_take]
theorem headB_size (s : ByteArray) (p : Nat) (tail : ByteArray) (hp : p ≤ s.size) : (headB s p tail).size = p + 1 + tail.size := by
  have h : (headB s p tail).data.toList.length = (headB s p tail).size := Array.length_toList
  have h1 : s.data.toList.length = s.size := Array.length_toList
  have h2 : tail.data.toList.length = tail.size := Array.length_toList
  rw [← h, headB_list, List.length_append, List.length_cons, List.length_take]
  omega
theorem headB_bat (s : ByteArray) (p : Nat) (tail : ByteArray) (j : Nat) (hp : p ≤ s.size) (hj : j < p) : bat (headB s p tail) j = bat s j := by
  rw [bat_drop0, headB_drop s p tail j hp (by omega), bat_drop0 s j]
  have hl : 0 < ((s.data.toList.drop j).take (p - j)).length := by rw [List.length_take, drop_len]; omega
  rw [List.getD_eq_getElem?_getD, List.getD_eq_getElem?_getD, List.getElem?_append_left hl, List.getElem?_take, if_pos (by omega)]

theorem runLen_ge {p : Int → Bool} : ∀ (m : Nat) (l r : List UInt8), m ≤ runLen p l → m ≤ runLen p (l.take m ++ r)
  | 0, _, _, _ => Nat.zero_le _
  | m + 1, [], r, h => by simp [runLen] at h
  | m + 1, b :: l, r, h => by
    rw [runLen] at h
    cases hp : p (b.toNat : Int)
    · rw [hp] at h; simp at h
    · rw [hp, if_pos rfl] at h
      rw [List.take_succ_cons, List.cons_append, runLen, hp, if_pos rfl]
      have := runLen_ge (p := p) m l r (by omega)
      omega
theorem runLen_lt {p : Int → Bool} {l r : List UInt8} {m : Nat} (h : runLen p l < m) (hm : m ≤ l.length) : runLen p (l.take m ++ r) = runLen p l := by
  refine runLen_congr _ rfl ?_ ?_ ?_
  · rw [List.take_append_of_le_length (by rw [List.length_take]; omega), List.take_take, Nat.min_eq_left (by omega)]
  · rw [List.length_append, List.length_take]; omega
  · intro b hb
    rw [List.getElem?_append_left (by rw [List.length_take]; omega), List.getElem?_take, if_pos h] at hb
    exact runLen_stop hb

/- The tokens ahead of the place of a token stand so in every text that begins so and has a blank there. -/
theorem lex_head (s : ByteArray) (p : Nat) (tail : ByteArray) (hp : p ≤ s.size) : ∀ j ts, j ≤ p → lexFrom s j = .ok ts → (∃ t ∈ ts, t.place = p) → ∀ ts2, lexFrom (headB s p tail) j = .ok ts2 →
    ∃ c x x', ts = c ++ x ∧ ts2 = c ++ x' ∧ (∀ t ∈ c, t.place < p) ∧ ∀ t ∈ x', p ≤ t.place := by
  have hz := headB_size s p tail hp
  intro j
  apply lex_ind (s := s) (P := fun j r => ∀ ts, j ≤ p → r = .ok ts → (∃ t ∈ ts, t.place = p) → ∀ ts2, lexFrom (headB s p tail) j = .ok ts2 → ∃ c x x', ts = c ++ x ∧ ts2 = c ++ x' ∧ (∀ t ∈ c, t.place < p) ∧ ∀ t ∈ x', p ≤ t.place)
  · intro k hk ts hj h hm ts2 h2
    obtain rfl : k = p := by omega
    exact ⟨[], ts, ts2, rfl, rfl, by simp, lex_ge k ts2 (by omega) h2⟩
  · intro k hk hb ih ts hj h hm ts2 h2
    obtain ⟨t, ht, htp⟩ := hm
    have hge := lex_ge (k + 1) ts (by omega) h t ht
    have hkp : k < p := by omega
    rw [lex_blank (by omega) (by rw [headB_bat s p tail k hp hkp]; exact hb)] at h2
    exact ih ts (by omega) h ⟨t, ht, htp⟩ ts2 h2
  · intro k hk hb ih ts hj h hm ts2 h2
    obtain ⟨t, ht, htp⟩ := hm
    have hE := endOf_le isRI s k (by omega)
    have hge := lex_ge _ ts hE h t ht
    have hgt := remark_gt hk hb
    have hkp : k < p := by omega
    have hb2 : bat (headB s p tail) k = 35 := by rw [headB_bat s p tail k hp hkp]; exact hb
    rw [lex_remark (by omega) hb2] at h2
    have e1 : endOf isRI s k = k + runLen isRI (s.data.toList.drop k) := rfl
    have e2 : endOf isRI (headB s p tail) k = k + runLen isRI ((s.data.toList.drop k).take (p - k) ++ 32 :: tail.data.toList) := by unfold endOf; rw [headB_drop s p tail k hp (by omega)]
    by_cases hlt : endOf isRI s k < p
    · have e3 : endOf isRI (headB s p tail) k = endOf isRI s k := by rw [e2, runLen_lt (by omega) (by rw [drop_len]; omega)]; rfl
      rw [e3] at h2
      exact ih ts (by omega) h ⟨t, ht, htp⟩ ts2 h2
    · have e3 : p ≤ endOf isRI (headB s p tail) k := by
        have := runLen_ge (p := isRI) (p - k) (s.data.toList.drop k) (32 :: tail.data.toList) (by omega)
        rw [e2]; omega
      refine ⟨[], ts, ts2, rfl, rfl, by simp, fun u hu => ?_⟩
      have := lex_ge _ ts2 (endOf_le _ _ _ (by omega)) h2 u hu
      omega
  · intro k e _ _ _ _ ts _ h; cases h
  · intro k t hk hb hr ht ih ts hj h hm ts2 h2
    obtain ⟨r', hr', rfl⟩ := more_ok h
    obtain ⟨kd, n, v, h3, ht3, hn, hn1, hn2⟩ := tok_three hk ht
    have hpl : t.place = k := by rw [ht3]
    rcases Nat.lt_or_ge k p with hkp | hkp
    · obtain ⟨u, hu, hup⟩ := hm
      have hu' : u ∈ r' := by
        rcases List.mem_append.1 hu with hu | hu
        · obtain rfl : u = t := by simpa using hu
          omega
        · exact hu
      have hge := lex_ge _ r' (by omega) hr' u hu'
      rw [hn] at hge
      have hd := headB_drop s p tail k hp (by omega)
      have htk : ((headB s p tail).data.toList.drop k).take n = (s.data.toList.drop k).take n := by
        rw [hd, List.take_append_of_le_length (by rw [List.length_take, drop_len]; omega), List.take_take, Nat.min_eq_left (by omega)]
      have h4 : tokL ((headB s p tail).data.toList.drop k) = .ok (kd, n, v) := by
        refine tokL_congr (drop_ne hk) h3 htk (by rw [drop_len]; omega) ?_
        rcases Nat.lt_or_ge (k + n) p with hlt | hge2
        · right; left
          rw [hd, List.getElem?_append_left (by rw [List.length_take, drop_len]; omega), List.getElem?_take, if_pos (by omega)]
        · right; right; left
          have hl : ((s.data.toList.drop k).take (p - k)).length = n := by rw [List.length_take, drop_len]; omega
          rw [hd, List.getElem?_append_right (by omega), hl, Nat.sub_self]
          rfl
      have hx : (headB s p tail).extract k (k + n) = s.extract k (k + n) := by
        apply bytes_ext
        rw [extract_list, htk, extract_list]
      have htok : tokAt (headB s p tail) k = .ok t := by
        rw [tokL_eq, h4, ht3]
        show Except.ok _ = _
        rw [hx]
      rw [lex_tok (by omega) (by rw [headB_bat s p tail k hp hkp]; exact hb) (by rw [headB_bat s p tail k hp hkp]; exact hr) htok] at h2
      obtain ⟨r2, hr2, rfl⟩ := more_ok h2
      obtain ⟨c, x, x', hc1, hc2, hc3, hc4⟩ := ih r' (by omega) hr' ⟨u, hu', hup⟩ r2 hr2
      refine ⟨t :: c, x, x', by rw [hc1]; rfl, by rw [hc2]; rfl, fun y hy => ?_, hc4⟩
      rcases List.mem_cons.1 hy with rfl | hy
      · omega
      · exact hc3 y hy
    · obtain rfl : k = p := by omega
      exact ⟨[], _, ts2, rfl, rfl, by simp, lex_ge k ts2 (by omega) h2⟩

theorem Al.refl : ∀ c : List Tok, Al Eq c c
  | [] => .nil
  | _ :: c => .cons ⟨rfl, rfl, rfl, rfl⟩ (Al.refl c)

theorem parse_first {s tail : ByteArray} {t : T} {p : Nat} {e : Int} (h : parseB s = (t, p, e)) (he : e = 20 ∨ e = 21) (hp : p ≤ s.size) {ts2 : List Tok} (h2 : lexAll (headB s p tail) = .ok ts2) {t' : T} {p' : Nat} {e' : Int}
    (h' : parseB (headB s p tail) = (t', p', e')) : e' = 0 ∨ e' = 22 ∨ p ≤ p' := by
  cases hl : lexAll s with
  | error q =>
    obtain ⟨k, c⟩ := q
    rw [parseB_err hl] at h
    have hc : 10 ≤ c ∧ c ≤ 13 := by
      unfold lexAll at hl
      split at hl
      · cases hl; decide
      · have := tokAt_err (lex_fault 0 hl).2.2.2.2
        omega
    cases h
    omega
  | ok ts =>
    rw [parseB_ok hl] at h
    rw [parseB_ok h2] at h'
    unfold parseToks at h h'
    cases hu : unitP ts with
    | ok q =>
      obtain ⟨a, l⟩ := q
      rw [hu] at h
      simp only at h
      split at h <;> (cases h; omega)
    | error q =>
      obtain ⟨q1, q2⟩ := q
      rw [hu] at h
      cases h
      have hpast := unit_p ts
      rw [hu] at hpast
      obtain ⟨y, hy, hny⟩ := lexAll_end hl
      have hm : ∃ t ∈ ts, t.place = p := by
        rcases hpast with ⟨t, ht, hp⟩ | hall
        · exact ⟨t, ht, hp.1.symm⟩
        · exact absurd (hall y hy) hny
      obtain ⟨c, x, x', hc1, hc2, hc3, hc4⟩ := lex_head s p tail hp 0 ts (by omega) (lexAll_from hl).1 hm ts2 (lexAll_from h2).1
      have h1 := unitF_s (x := x) (x' := x') (ts.length + 1) (ts2.length + 1) (Al.refl c) (by rw [hc1]; exact Nat.le_refl _) (by rw [hc2]; exact Nat.le_refl _)
      rw [← hc1, ← hc2] at h1
      rcases h1 with ⟨a, a', d, k, d', k', e1, _⟩ | ⟨r, r', ee, e1, _, _, t, ht, hr⟩ | ⟨hcon, _, hpx, _⟩
      · unfold unitP at hu
        rw [bd_ok e1] at hu
        cases hu
      · unfold unitP at hu
        rw [bd_err e1] at hu
        cases hu
        have := hc3 t ht
        omega
      · cases hu2 : unitF (ts2.length + 1) ts2 with
        | ok q =>
          obtain ⟨b, l⟩ := q
          have : unitP ts2 = .ok (.mk 0 e0 0 0 b, l) := by unfold unitP; rw [bd_ok hu2]
          rw [this] at h'
          simp only at h'
          split at h' <;> (cases h'; omega)
        | error q =>
          obtain ⟨r1, r2⟩ := q
          have : unitP ts2 = .error (r1, r2) := by unfold unitP; rw [bd_err hu2]
          rw [this] at h'
          cases h'
          rw [hu2] at hpx
          obtain ⟨z, hz, hnz⟩ := lexAll_end h2
          rcases hpx with ⟨t, ht, hr⟩ | hall
          · have := hc4 t ht
            have hr' : p' = t.place := hr.1
            omega
          · rw [hc2] at hz
            rcases List.mem_append.1 hz with hz | hz
            · exact absurd (hcon z hz) hnz
            · exact absurd (hall z hz) hnz
end

section
open Go.RowKit

theorem Al.true : ∀ c : List Tok, Al (fun _ _ => True) c c
  | [] => .nil
  | _ :: c => .cons ⟨rfl, rfl, rfl, trivial⟩ (Al.true c)
theorem Al.trueShift (n : Nat) : ∀ c : List Tok, Al (fun _ _ => True) c (c.map (shiftTok n))
  | [] => .nil
  | _ :: c => .cons ⟨rfl, rfl, rfl, trivial⟩ (Al.trueShift n c)

mutual
theorem TR.refl1 : ∀ t : T, TR (fun _ _ => True) t t
  | .mk _ _ _ _ ks => TR.mk trivial (TsR.refl1 ks)
theorem TsR.refl1 : ∀ ts : List T, TsR (fun _ _ => True) ts ts
  | [] => .nil
  | t :: ts => .cons (TR.refl1 t) (TsR.refl1 ts)
end
mutual
theorem TR.trans1 : ∀ {t u v : T}, TR (fun _ _ => True) t u → TR (fun _ _ => True) u v → TR (fun _ _ => True) t v
  | .mk _ _ _ _ ks, u, v, h, h' => by
    have hk : TsR (fun _ _ => True) ks v.kids := TsR.trans1 (show TsR _ ks u.kids from h.kids) h'.kids
    exact TR.of (h.kind.trans h'.kind) (h.text.trans h'.text) (h.num.trans h'.num) trivial hk
theorem TsR.trans1 : ∀ {ts us vs : List T}, TsR (fun _ _ => True) ts us → TsR (fun _ _ => True) us vs → TsR (fun _ _ => True) ts vs
  | [], us, vs, h, h' => by unfold TsR at h; subst h; exact h'
  | t :: ts, us, vs, h, h' => by
    unfold TsR at h
    obtain ⟨u, us', rfl, h1, h2⟩ := h
    unfold TsR at h'
    obtain ⟨v, vs', rfl, h3, h4⟩ := h'
    exact .cons (TR.trans1 h1 h3) (TsR.trans1 h2 h4)
end
theorem tok_kind0 {l : List UInt8} {kd n v : Nat} (h : tokL l = .ok (kd, n, v)) : kd ≠ 0 := by
  unfold tokL at h
  split at h
  · unfold wordL at h
    split at h
    · cases h
    · split at h <;> (cases h; decide)
  · split at h
    · unfold numL at h
      split at h
      · cases h
      · cases h; decide
    · unfold signL at h
      split at h
      · cases h; decide
      · split at h <;> cases h
        decide
theorem parse_unit {s : ByteArray} {xs : List T} {p : Nat} (h : parseB s = (.mk 0 e0 0 0 xs, p, 0)) : ∃ ts, lexAll s = .ok ts ∧ ∃ k, unitF (ts.length + 1) ts = .ok (xs, k) := by
  cases hl : lexAll s with
  | error q =>
    obtain ⟨k, c⟩ := q
    rw [parseB_err hl] at h
    exfalso
    have hc : 10 ≤ c ∧ c ≤ 13 := by
      unfold lexAll at hl
      split at hl
      · cases hl; decide
      · have := tokAt_err (lex_fault 0 hl).2.2.2.2
        omega
    simp only [Prod.mk.injEq] at h
    omega
  | ok ts =>
    refine ⟨ts, rfl, ?_⟩
    rw [parseB_ok hl] at h
    unfold parseToks unitP at h
    cases hu : unitF (ts.length + 1) ts with
    | error q =>
      obtain ⟨q1, q2⟩ := q
      rw [bd_err hu] at h
      exfalso
      simp only [Prod.mk.injEq] at h
      have hn := unitF_p _ ts (Nat.le_refl _)
      rw [hu] at hn
      obtain ⟨y, hy, hny⟩ := lexAll_end hl
      rcases hn with ⟨t, _, _, hne⟩ | hall
      · exact hne h.2.2
      · exact hny (hall y hy)
    | ok q =>
      obtain ⟨ys, k⟩ := q
      rw [bd_ok hu] at h
      simp only at h
      split at h
      · simp at h
      · simp only [Prod.mk.injEq, T.mk.injEq, true_and, and_true] at h
        exact ⟨k, by rw [h.1]⟩

/- The declarations of a list are the same with others behind them. -/
theorem unitF_more2 {x : List Tok} {e : Tok} (he : ¬ Con e) (hk : e.kind = 0) (hx : ∃ t ∈ x, ¬ Con t) : ∀ (n : Nat) {c : List Tok} {xs : List T} {k : List Tok}, (∀ t ∈ c, t.kind ≠ 0) → unitF n (c ++ [e]) = .ok (xs, k) → ∀ {ys : List T} {k2 : List Tok} (m : Nat), unitF m x = .ok (ys, k2) → x.length + 1 ≤ m →
    ∀ n2, (c ++ x).length + 1 ≤ n2 → ∃ zs k3, unitF n2 (c ++ x) = .ok (zs, k3) ∧ TsR (fun _ _ => True) (xs ++ ys) zs := by
  intro n
  induction n with
  | zero => intro c xs k _ h; cases h
  | succ n ih =>
    intro c xs k hc h ys k2 m hm hxm n2 hn2
    cases c with
    | nil =>
      have h1 : unitF (n + 1) ([] ++ [e]) = .ok ([], [e]) := by
        rw [unitF]
        show (bif e.kind == 0 then _ else _) = _
        rw [hk]
        rfl
      rw [h1] at h
      cases h
      have h2 := unitF_s (ρ := fun _ _ => True) (x := []) (x' := []) m n2 (Al.true x) (by simpa using hxm) (by simpa using hn2)
      rw [List.append_nil] at h2
      rw [List.nil_append] at hn2 ⊢
      rcases h2 with ⟨a, a', d, q, d', q', e1, e2, hv, _⟩ | ⟨p, p', ee, e1, _⟩ | ⟨hcon, _⟩
      · rw [hm] at e1
        cases e1
        exact ⟨a', _, e2, hv⟩
      · rw [hm] at e1; cases e1
      · obtain ⟨t, ht, hn⟩ := hx
        exact absurd (hcon t ht) hn
    | cons t c1 =>
      have ht0 : (t.kind == 0) = false := beq_eq_false_iff_ne.2 (hc t (by simp))
      rw [unitF] at h
      have h' : bd (declP (t :: c1 ++ [e])) (fun a l1 => bd (unitF n l1) fun xs l2 => .ok (a :: xs, l2)) = .ok (xs, k) := by
        have e1 : ((hdT (t :: c1 ++ [e])).kind == 0) = false := ht0
        rw [e1] at h
        exact h
      obtain ⟨n3, rfl⟩ : ∃ n3, n2 = n3 + 1 := ⟨n2 - 1, by omega⟩
      have hs := decl_s (ρ := fun _ _ => True) (x := [e]) (x' := x) (Al.true (t :: c1))
      rcases hs with ⟨a, a', d, q, d', q', e1, e2, hv, hd, hd', hal, hcon⟩ | ⟨p, p', ee, e1, _⟩ | ⟨_, _, _, hcl⟩
      · rw [bd_ok e1] at h'
        cases hu : unitF n (q ++ [e]) with
        | error er => rw [bd_err hu] at h'; cases h'
        | ok r =>
          obtain ⟨xs1, k1⟩ := r
          rw [bd_ok hu] at h'
          cases h'
          have hq : ∀ t ∈ q, t.kind ≠ 0 := fun u hu => hc u (by rw [hd]; exact List.mem_append_right _ hu)
          have hqq : q = q' := by
            have h4 : d.length = d'.length := by
              have h5 := Al.length hal
              have h6 := congrArg List.length hd
              have h7 := congrArg List.length hd'
              rw [List.length_append] at h6 h7
              omega
            exact (List.append_inj (hd.symm.trans hd') h4).2
          subst hqq
          have hlen : (q ++ x).length + 1 ≤ n3 := by
            have h5 := sz_sh (decl_sz _) _ _ e2
            unfold Sh at h5
            omega
          obtain ⟨zs, k3, hz, hr⟩ := ih hq hu m hm hxm n3 hlen
          refine ⟨a' :: zs, k3, ?_, ?_⟩
          · rw [unitF]
            have e3 : ((hdT (t :: c1 ++ x)).kind == 0) = false := ht0
            rw [e3]
            show bd (declP (t :: c1 ++ x)) _ = _
            rw [bd_ok e2, bd_ok hz]
          · exact TsR.cons hv hr
      · rw [bd_err e1] at h'; cases h'
      · obtain ⟨er, her⟩ := hcl rfl (fun u hu => by obtain rfl : u = e := List.mem_singleton.1 hu; exact he)
        rw [bd_err her] at h'
        cases h'

theorem lex_kinds {s : ByteArray} : ∀ j ts, lexFrom s j = .ok ts → ∃ c, ts = c ++ [endTok s] ∧ ∀ t ∈ c, t.kind ≠ 0 := by
  intro j
  apply lex_ind (s := s) (P := fun _ r => ∀ ts, r = .ok ts → ∃ c, ts = c ++ [endTok s] ∧ ∀ t ∈ c, t.kind ≠ 0)
  · intro k _ ts h; cases h; exact ⟨[], rfl, by simp⟩
  · intro k _ _ ih; exact ih
  · intro k _ _ ih; exact ih
  · intro k e _ _ _ _ ts h; cases h
  · intro k t hk _ _ ht ih ts h
    obtain ⟨r', hr', rfl⟩ := more_ok h
    obtain ⟨c, hc, hk0⟩ := ih r' hr'
    obtain ⟨kd, n, v, h3, ht3, hn, hn1, hn2⟩ := tok_three hk ht
    refine ⟨t :: c, by rw [hc]; rfl, fun u hu => ?_⟩
    rcases List.mem_cons.1 hu with rfl | hu
    · rw [ht3]
      exact tok_kind0 h3
    · exact hk0 u hu

/- What the law asks of the three trees. -/
theorem parse_joined {a b : ByteArray} {xs ys : List T} {p q : Nat} (ha : parseB a = (.mk 0 e0 0 0 xs, p, 0)) (hb : parseB b = (.mk 0 e0 0 0 ys, q, 0)) (hs : a.size + b.size + 1 ≤ 16384) (hz : (T.mk 0 e0 0 0 xs).size + (T.mk 0 e0 0 0 ys).size ≤ 4097) :
    ∃ zs r, parseB (joinB a b) = (.mk 0 e0 0 0 zs, r, 0) ∧ TsR (fun _ _ => True) (xs ++ ys) zs := by
  obtain ⟨ta, hla, ka, hua⟩ := parse_unit ha
  obtain ⟨tb, hlb, kb, hub⟩ := parse_unit hb
  have hj := lex_join hla hlb hs
  obtain ⟨c, hc, hk0⟩ := lex_kinds 0 ta (lexAll_from hla).1
  have hsh := unitF_s (ρ := fun _ _ => True) (x := []) (x' := []) (tb.length + 1) ((tb.map (shiftTok (a.size + 1))).length + 1) (Al.trueShift (a.size + 1) tb) (by simp) (by simp)
  rw [List.append_nil, List.append_nil] at hsh
  obtain ⟨t0, ht0, hn0⟩ := lexAll_end hlb
  rcases hsh with ⟨y1, y2, d, k, d', k', e1, e2, hv, _⟩ | ⟨p1, p2, ee, e1, _⟩ | ⟨hcon, _⟩
  · rw [hub] at e1
    cases e1
    have hx : ∃ t ∈ tb.map (shiftTok (a.size + 1)), ¬ Con t := ⟨shiftTok (a.size + 1) t0, List.mem_map_of_mem ht0, hn0⟩
    have hua' : unitF (ta.length + 1) (c ++ [endTok a]) = .ok (xs, ka) := by rw [← hc]; exact hua
    have hdl : ta.dropLast = c := by rw [hc]; simp
    obtain ⟨zs, k3, hz1, hz2⟩ := unitF_more2 (end_nc a) rfl hx (ta.length + 1) hk0 hua' ((tb.map (shiftTok (a.size + 1))).length + 1) e2 (Nat.le_refl _) ((c ++ tb.map (shiftTok (a.size + 1))).length + 1) (Nat.le_refl _)
    have hr : TsR (fun _ _ => True) (xs ++ ys) zs := TsR.trans1 (TsR.append (TsR.refl1 xs) hv) hz2
    refine ⟨zs, 0, ?_, hr⟩
    rw [parseB_ok hj, hdl]
    unfold parseToks
    have hu3 : unitP (c ++ tb.map (shiftTok (a.size + 1))) = .ok (.mk 0 e0 0 0 zs, k3) := by unfold unitP; rw [bd_ok hz1]
    rw [hu3]
    have hsz : sizes zs = sizes xs + sizes ys := by rw [← TsR.sizes hr, sizes_append]
    rw [size_mk, size_mk] at hz
    show (if 4096 < (T.mk 0 e0 0 0 zs).size then _ else _) = _
    rw [if_neg (by rw [size_mk]; omega)]
  · rw [hub] at e1; cases e1
  · exact absurd (hcon t0 ht0) hn0
end

section
open Go.RowKit Go.Maps

def libB (r : Option Nat) (libs : Int) : Bool := match r with | some k => decide ((k : Int) < libs) | none => false
def FiRel (w : World) (cs : List Cod) (s : ByteArray) (libs main : Int) (v : Value) (g : Nat) (i : Value) (wr : World) : Prop :=
  ∃ k : Nat, k ≤ cs.length ∧ cs.length ≤ k + g ∧ i = .int .i64 k ∧ findN cs s = (findN (cs.drop k) s).map (· + k) ∧ Blk wr w.heap.size [v, .int .i64 libs, .int .i64 main] 60 ∧ Below w.heap.size w wr
theorem findN_cons (c : Cod) (cs : List Cod) (s : ByteArray) : findN (c :: cs) s = bif c.name.toList == s.toList then some 0 else (findN cs s).map (· + 1) := by rw [findN]
theorem toList_eq_iff {a b : ByteArray} : a.toList = b.toList ↔ a = b := by
  rw [ByteArray.toList_eq, ByteArray.toList_eq]
  constructor
  · intro h
    cases a; cases b
    simpa using h
  · rintro rfl; rfl

set_option maxRecDepth 100000 in
set_option maxHeartbeats 1000000 in
theorem find_any {w : World} {cs : List Cod} {S : Nat → Prop} {v : Value} (hc : CodsAt w cs S v) (libs main : Int) (s : ByteArray) :
    Calls Tryd.prog 24 #[.agg #[v, .int .i64 libs, .int .i64 main], .string s] w fun e w' => e = .returned (.tuple #[.int .i64 (((findN cs s).getD 0 : Nat) : Int), .bool (libB (findN cs s) libs), .bool (findN cs s).isSome]) ∧ Below w.heap.size w w' := by
  have HB := Lib.hid (show Below w.heap.size w (w.alloc (.cells [v, .int .i64 libs, .int .i64 main].toArray 60)) from (Below.refl _ _).alloc (Nat.le_refl _) _)
  have HI := Lib.hid (Blk.new w [v, .int .i64 libs, .int .i64 main] 60)
  rcases hc.form with ⟨rfl, hnil⟩ | ⟨g, cap, rfl, hg, hcap, hcm, hget⟩
  · have HN := Lib.hid hnil
    clear hc hnil
    go_enter Tryd.func24, Tryd.ntmps24
    go_wp2_with fail
    refine wp_loop_rounds 1 ?_
    rw [rounds_succ]
    go_wp2_with fail
    go_ret3
    rw [HN.out]
    exact ⟨rfl, HB.out⟩
  · have HG := Lib.hid hget
    have HCAP := Lib.hid hcap
    have hg2 := hg.2
    clear hc hget hcap hg
    unfold maxLen at hcm
    go_enter Tryd.func24, Tryd.ntmps24
    go_wp2_with fail
    go_loopg [12] cs.length (fun gk i wr => FiRel w cs s libs main (.slice (some ⟨g, 0, none⟩) cs.length cap) gk i wr)
    case atStart => exact ⟨0, by omega, by omega, rfl, by rw [List.drop_zero]; cases findN cs s <;> rfl, HI.out, HB.out⟩
    case round =>
      obtain ⟨k, hk, hgk, rfl, hfi, hbi, hbel⟩ := hrel
      have HBW := Lib.hid hbel
      have HFI := Lib.hid hfi
      have HBI := Lib.hid hbi
      have hzw := hbel.size
      clear hbel hfi hbi
      by_cases hlt : k < cs.length
      · obtain ⟨pv, lv, hr, hca⟩ := HG.out k cs[k] (List.getElem?_eq_getElem hlt)
        have HDR := Lib.hid (show findN cs s = ((bif cs[k].name.toList == s.toList then some 0 else (findN (cs.drop (k + 1)) s).map (· + 1)).map (· + k)) by rw [HFI.out, List.drop_eq_getElem_cons hlt, findN_cons])
        generalize cs[k] = cd at hr hca HDR
        obtain ⟨pa, pc, rfl⟩ := hca.1.slice
        obtain ⟨la, lc, rfl⟩ := hca.2.slice
        have HR := Lib.hid (show wr.rangeAt g (k * 3) [.string cd.name, .slice pa cd.params.length pc, .slice la cd.list.length lc] from rangeAt_below hr HBW.out hg2)
        have hcap := HCAP.out
        obtain ⟨W, hW⟩ : ∃ W, wr.alloc (.cells [.string cd.name, .slice pa cd.params.length pc, .slice la cd.list.length lc].toArray 55) = W := ⟨_, rfl⟩
        have HBN := Lib.hid (show Below w.heap.size w W from hW ▸ HBW.out.alloc hzw _)
        have HBJ := Lib.hid (show Blk W w.heap.size [.slice (some ⟨g, 0, none⟩) cs.length cap, .int .i64 libs, .int .i64 main] 60 from hW ▸ HBI.out.alloc _)
        have n0 : W.cell? ⟨wr.heap.size, 0, none⟩ = some (.string cd.name) := hW ▸ (Blk.new wr [.string cd.name, .slice pa cd.params.length pc, .slice la cd.list.length lc] 55).cell 0
        have i1 : W.cell? ⟨w.heap.size, 1, none⟩ = some (.int .i64 libs) := HBJ.out.cell 1
        clear hr hca
        by_cases he : cd.name = s
        · have hb : (cd.name.toList == s.toList) = true := by simp [he]
          have HX := Lib.hid (show findN cs s = some k by rw [HDR.out, hb]; simp)
          subst he
          go_wp2_with (first
            | ((with_reducible refine at_ld 55 (.tmp 15) ?_); refine wpList_load_mid rfl 55 (.tmp 15) rfl g (k * 3) rfl [.string cd.name, .slice pa cd.params.length pc, .slice la cd.list.length lc] _ HR.out Tryd.underlying55 rfl Tryd.sizeCode ?_)
            | ((with_reducible refine at_st 55 (.tmp 8) ?_); refine wpList_store_new rfl 55 (.tmp 8) (.tmp 16) rfl [.string cd.name, .slice pa cd.params.length pc, .slice la cd.list.length lc] (old := codCells cod0 (.slice none 0 0) (.slice none 0 0)) rfl rfl Tryd.sizeCode rfl (by intro x hx; simp only [List.mem_cons, List.not_mem_nil, or_false] at hx; rcases hx with rfl | rfl | rfl <;> rfl) ?_))
          go_quiet (fail)
          go_wp2_with fail
          go_ret3
          rw [HX.out]
          exact ⟨rfl, below_nqL HBN.out _⟩
        · have hb : (cd.name.toList == s.toList) = false := by simp; exact fun h => he (toList_eq_iff.1 h)
          have HX := Lib.hid (show findN cs s = (findN (cs.drop (k + 1)) s).map (· + (k + 1)) by rw [HDR.out, hb]; cases findN (cs.drop (k + 1)) s <;> simp; omega)
          go_wp2_with (first
            | ((with_reducible refine at_ld 55 (.tmp 15) ?_); refine wpList_load_mid rfl 55 (.tmp 15) rfl g (k * 3) rfl [.string cd.name, .slice pa cd.params.length pc, .slice la cd.list.length lc] _ HR.out Tryd.underlying55 rfl Tryd.sizeCode ?_)
            | ((with_reducible refine at_st 55 (.tmp 8) ?_); refine wpList_store_new rfl 55 (.tmp 8) (.tmp 16) rfl [.string cd.name, .slice pa cd.params.length pc, .slice la cd.list.length lc] (old := codCells cod0 (.slice none 0 0) (.slice none 0 0)) rfl rfl Tryd.sizeCode rfl (by intro x hx; simp only [List.mem_cons, List.not_mem_nil, or_false] at hx; rcases hx with rfl | rfl | rfl <;> rfl) ?_))
          go_roundg (gk - 1)
          case measure => omega
          case rel => exact ⟨k + 1, by omega, by omega, by go_num, HX.out, HBJ.out, HBN.out⟩
      · have HX := Lib.hid (show findN cs s = none by rw [HFI.out, List.drop_of_length_le (by omega)]; rfl)
        go_wp2_with fail
        go_ret3
        rw [HX.out]
        exact ⟨rfl, HBW.out⟩
end

section
open Go.RowKit

theorem or_l {a b : Bool} (h : a = true) : (a || b) = true := by rw [h]; rfl
theorem or_r {a b : Bool} (h : b = true) : (a || b) = true := by rw [h]; simp
/- Does a node have this name? -/
mutual
def T.usesB (s : ByteArray) : T → Bool
  | .mk _ x _ _ ks => (x.toList == s.toList) || usesBs s ks
def usesBs (s : ByteArray) : List T → Bool
  | [] => false
  | t :: ts => t.usesB s || usesBs s ts
end
theorem uses_eq (s : ByteArray) (t : T) : t.usesB s = ((t.text.toList == s.toList) || usesBs s t.kids) := by cases t; rw [T.usesB]; rfl
theorem usesBs_nil (s : ByteArray) : usesBs s [] = false := by rw [usesBs]
theorem usesBs_cons (s : ByteArray) (t : T) (ts : List T) : usesBs s (t :: ts) = (t.usesB s || usesBs s ts) := by rw [usesBs]
theorem usesBs_mem {s : ByteArray} : ∀ {ts : List T} {t : T}, t ∈ ts → t.usesB s = true → usesBs s ts = true
  | a :: ts, t, hm, h => by
    rw [usesBs_cons]
    rcases List.mem_cons.1 hm with rfl | hm
    · exact or_l h
    · exact or_r (usesBs_mem hm h)
theorem uses_own (t : T) : t.usesB t.text = true := by rw [uses_eq]; exact or_l (by simp)
theorem uses_in {s : ByteArray} {t : T} (h : usesBs s t.kids = true) : t.usesB s = true := by rw [uses_eq]; exact or_r h
theorem uses_kid {s : ByteArray} {t u : T} (h : u ∈ t.kids) (hu : u.usesB s = true) : t.usesB s = true := uses_in (usesBs_mem h hu)
theorem stmt_uses (blk : Nat → List T → List Ins) (c : Nat) {t : T} (hw : t.whole) (_ : isStmtK t.kind) (h15 : t.kind ≠ 15) (h16 : t.kind ≠ 16) : ∀ i ∈ stmtI blk c t, (i.op = 12 ∨ i.op = 13) → t.usesB i.y = true := by
  have e15 : (t.kind == 15) = false := by simp; omega
  have e16 : (t.kind == 16) = false := by simp; omega
  intro i hi ho
  unfold stmtI at hi
  rw [e15, e16] at hi
  cases h10 : (t.kind == 10) with
  | true =>
    rw [h10] at hi
    obtain rfl : i = setI t := by simpa using hi
    have hka : ∃ a, t.kids = [a] := by
      have h1 := (whole_eq.1 hw).1
      have hk10 : t.kind = 10 := by simpa using h10
      rw [hk10] at h1
      generalize t.kids = ks at *
      cases h1 with
      | @set a e ha => exact ⟨a, rfl⟩
      | unit e | type e | none e | one e | two e | fn e | param e | block e | cond e | loop e | call1 e | load e | call e | leaf e => omega
    obtain ⟨a, ha⟩ := hka
    have hp : kidP t 0 = a := by unfold kidP; rw [ha]; rfl
    unfold setI at ho ⊢
    rw [hp] at ho ⊢
    cases h1 : (a.kind == 5) with
    | true => rw [h1] at ho; exact absurd (show (0 : Int) = 12 ∨ (0 : Int) = 13 from ho) (by decide)
    | false =>
    cases h2 : (a.kind == 26 || a.kind == 27) with
    | true => rw [h1, h2] at ho; exact absurd (show (0 : Int) = 12 ∨ (0 : Int) = 13 from ho) (by decide)
    | false =>
    cases h3 : (a.kind == 21) with
    | true => rw [h1, h2, h3] at ho; exact absurd (show (1 : Int) = 12 ∨ (1 : Int) = 13 from ho) (by decide)
    | false =>
    cases h4 : (a.kind == 22) with
    | true => rw [h1, h2, h3, h4] at ho; exact absurd (show (2 : Int) = 12 ∨ (2 : Int) = 13 from ho) (by decide)
    | false =>
    cases h5 : (a.kind == 23) with
    | true => rw [h1, h2, h3, h4, h5] at ho; exact absurd (show (3 : Int) = 12 ∨ (3 : Int) = 13 from ho) (by decide)
    | false =>
    cases h6 : (a.kind == 24) with
    | true => rw [h1, h2, h3, h4, h5, h6] at ho; exact absurd (show (4 : Int) = 12 ∨ (4 : Int) = 13 from ho) (by decide)
    | false =>
    cases h7 : (a.kind == 25) with
    | true => rw [h1, h2, h3, h4, h5, h6, h7] at ho; exact absurd (show (5 : Int) = 12 ∨ (5 : Int) = 13 from ho) (by decide)
    | false =>
    cases h8 : (a.kind == 28) with
    | true => exact uses_kid (u := a) (by rw [ha]; simp) (uses_own a)
    | false => rw [h1, h2, h3, h4, h5, h6, h7, h8] at ho; exact absurd (show (0 : Int) = 12 ∨ (0 : Int) = 13 from ho) (by decide)
  | false =>
    rw [h10] at hi
    unfold simpleI at hi
    cases h11 : (t.kind == 11) with
    | true => rw [h11] at hi; obtain rfl := List.mem_singleton.1 hi; exact absurd (show (6 : Int) = 12 ∨ (6 : Int) = 13 from ho) (by decide)
    | false =>
    cases h12 : (t.kind == 12) with
    | true => rw [h11, h12] at hi; obtain rfl := List.mem_singleton.1 hi; exact absurd (show (7 : Int) = 12 ∨ (7 : Int) = 13 from ho) (by decide)
    | false =>
    cases h13 : (t.kind == 13) with
    | true => rw [h11, h12, h13] at hi; obtain rfl := List.mem_singleton.1 hi; exact absurd (show (8 : Int) = 12 ∨ (8 : Int) = 13 from ho) (by decide)
    | false =>
    cases h14 : (t.kind == 14) with
    | true => rw [h11, h12, h13, h14] at hi; obtain rfl := List.mem_singleton.1 hi; exact absurd (show (9 : Int) = 12 ∨ (9 : Int) = 13 from ho) (by decide)
    | false =>
    cases h20 : (t.kind == 20) with
    | true =>
      rw [h11, h12, h13, h14, h20] at hi
      obtain rfl := List.mem_singleton.1 hi
      have hka : ∃ a, t.kids = [a] ∧ a.kind = 28 := by
        have h1 := (whole_eq.1 hw).1
        have hk20 : t.kind = 20 := by simpa using h20
        rw [hk20] at h1
        generalize t.kids = ks at *
        cases h1 with
        | @call1 a e ha => exact ⟨a, rfl, ha⟩
        | unit e | type e | none e | one e | two e | fn e | param e | block e | set e | cond e | loop e | load e | call e | leaf e => omega
      obtain ⟨a, ha, hak⟩ := hka
      have hp : kidP t 0 = a := by unfold kidP; rw [ha]; rfl
      show t.usesB (kidP t 0).text = true
      rw [hp]
      exact uses_kid (u := a) (by rw [ha]; simp) (uses_own a)
    | false =>
    cases h19 : (t.kind == 19) with
    | true =>
      rw [h11, h12, h13, h14, h20, h19] at hi
      obtain rfl := List.mem_singleton.1 hi
      exact uses_own t
    | false =>
    cases h17 : (t.kind == 17) with
    | true => rw [h11, h12, h13, h14, h20, h19, h17] at hi; obtain rfl := List.mem_singleton.1 hi; exact absurd (show (14 : Int) = 12 ∨ (14 : Int) = 13 from ho) (by decide)
    | false =>
    cases h18 : (t.kind == 18) with
    | true => rw [h11, h12, h13, h14, h20, h19, h17, h18] at hi; obtain rfl := List.mem_singleton.1 hi; exact absurd (show (15 : Int) = 12 ∨ (15 : Int) = 13 from ho) (by decide)
    | false => rw [h11, h12, h13, h14, h20, h19, h17, h18] at hi; simp at hi
theorem blockI_uses : ∀ (n : Nat) (ks : List T), sizes ks ≤ n → KindsAre isStmtK ks → wholes ks → ∀ c, ∀ i ∈ blockI n c ks, (i.op = 12 ∨ i.op = 13) → usesBs i.y ks = true
  | 0, ks, _, _, _, c, i, hi, _ => by simp [blockI] at hi
  | n + 1, ks, hn, hk, hw, c, i, hi, ho => by
    have hi' : i ∈ stmtsI (blockI n) c ks := hi
    clear hi
    induction ks generalizing c with
    | nil => simp [stmtsI] at hi'
    | cons t ts ih =>
      rw [sizes_cons] at hn
      have hts : t.size = 1 + sizes t.kids := by cases t; rw [size_mk]; rfl
      have hwt := wholes_cons.1 hw
      have hkt : isStmtK t.kind := hk t (by simp)
      rw [stmtsI, List.mem_append] at hi'
      rw [usesBs_cons]
      rcases hi' with hi | hi
      · refine or_l ?_
        rcases stmt_form hwt.1 hkt with ⟨h15, a, b, x, y, he, hab, hxy, hwab, hx, hy⟩ | ⟨h16, a, b, x, he, hab, hx9, hwab, hx⟩ | ⟨h15, h16, h0⟩
        · have s1 : sizes t.kids = a.size + (b.size + (x.size + (y.size + 0))) := by rw [he, sizes_cons, sizes_cons, sizes_cons, sizes_cons, sizes_nil]
          have s2 : x.size = 1 + sizes x.kids := by cases x; rw [size_mk]; rfl
          have s3 : y.size = 1 + sizes y.kids := by cases y; rw [size_mk]; rfl
          have hbx := block_kids hx hxy.1
          have hby := block_kids hy hxy.2
          rw [stmtI_if _ _ h15 he] at hi
          simp only [List.mem_cons, List.mem_append] at hi
          rcases hi with rfl | hi | rfl | hi
          · exact absurd ho (by show ¬ ((10 : Int) = 12 ∨ (10 : Int) = 13); omega)
          · exact uses_kid (u := x) (by rw [he]; simp) (uses_in (blockI_uses n x.kids (by omega) hbx.1 hbx.2 _ i hi ho))
          · exact absurd ho (by show ¬ ((11 : Int) = 12 ∨ (11 : Int) = 13); omega)
          · exact uses_kid (u := y) (by rw [he]; simp) (uses_in (blockI_uses n y.kids (by omega) hby.1 hby.2 _ i hi ho))
        · have s1 : sizes t.kids = a.size + (b.size + (x.size + 0)) := by rw [he, sizes_cons, sizes_cons, sizes_cons, sizes_nil]
          have s2 : x.size = 1 + sizes x.kids := by cases x; rw [size_mk]; rfl
          have hbx := block_kids hx hx9
          rw [stmtI_while _ _ h16 he] at hi
          simp only [List.mem_cons, List.mem_append, List.not_mem_nil, or_false] at hi
          rcases hi with rfl | hi | rfl
          · exact absurd ho (by show ¬ ((10 : Int) = 12 ∨ (10 : Int) = 13); omega)
          · exact uses_kid (u := x) (by rw [he]; simp) (uses_in (blockI_uses n x.kids (by omega) hbx.1 hbx.2 _ i hi ho))
          · exact absurd ho (by show ¬ ((11 : Int) = 12 ∨ (11 : Int) = 13); omega)
        · exact stmt_uses (blockI n) c hwt.1 hkt h15 h16 i hi ho
      · exact or_r (ih (by omega) (fun u hu => hk u (by simp [hu])) hwt.2 _ hi)

theorem fn_uses {t : T} (hw : t.whole) (hs : t.size ≤ 5000) {i : Ins} (hi : i ∈ (lowerI t).list) (ho : i.op = 12 ∨ i.op = 13) : t.usesB i.y = true := by
  by_cases h6 : t.kind = 6
  · obtain ⟨xs, r, b, he, hx, hwx, hr, hb, hsz, hl⟩ := fn_form hw h6
    have hts : t.size = 1 + sizes t.kids := by cases t; rw [size_mk]; rfl
    have hbk := block_kids hb.2 hb.1
    rw [hl] at hi
    have hi' : i ∈ blockI 5000 0 b.kids ++ [retI b] := hi
    rw [List.mem_append] at hi'
    rcases hi' with hi | hi
    · exact uses_kid (u := b) (by rw [he]; simp) (uses_in (blockI_uses 5000 b.kids (by omega) hbk.1 hbk.2 _ i hi ho))
    · obtain rfl : i = retI b := by simpa using hi
      exact absurd ho (by show ¬ ((14 : Int) = 12 ∨ (14 : Int) = 13); omega)
  · rw [fn_not h6] at hi
    simp [cod0] at hi

/- A code F among others. -/
def shK (n k : Nat) : Nat := if k < n then k else k + 1
theorem findN_mid {F : Cod} {s : ByteArray} (hs : (F.name.toList == s.toList) = false) : ∀ (cs bs : List Cod), findN (cs ++ F :: bs) s = (findN (cs ++ bs) s).map (shK cs.length)
  | [], bs => by
    rw [List.nil_append, List.nil_append, findN_cons, hs]
    cases findN bs s <;> simp [shK]
  | a :: cs, bs => by
    rw [List.cons_append, List.cons_append, findN_cons, findN_cons, findN_mid hs cs bs]
    cases (a.name.toList == s.toList) with
    | true => simp [shK]
    | false =>
      cases findN (cs ++ bs) s with
      | none => rfl
      | some k =>
        simp only [cond_false, Option.map_some, List.length_cons, Option.some.injEq]
        unfold shK
        split <;> split <;> omega
theorem getD_mid (F : Cod) (cs bs : List Cod) (k : Nat) : (cs ++ F :: bs).getD (shK cs.length k) cod0 = (cs ++ bs).getD k cod0 := by
  unfold shK List.getD
  split
  · rw [List.getElem?_append_left (by omega), List.getElem?_append_left (by omega)]
  · rw [List.getElem?_append_right (by omega), List.getElem?_append_right (by omega), show k + 1 - cs.length = (k - cs.length) + 1 by omega, List.getElem?_cons_succ]
theorem sh_lt (n k : Nat) : decide (shK n k < n + 1) = decide (k < n) := by
  unfold shK
  split
  · rename_i h
    simp [h]
    omega
  · rename_i h
    simp [h]
theorem resL_mid {F : Cod} {cs bs : List Cod} {i : Ins} (hi : (i.op = 12 ∨ i.op = 13) → (F.name.toList == i.y.toList) = false) : resL (cs ++ F :: bs) (cs.length + 1) i = resL (cs ++ bs) cs.length i := by
  unfold resL
  cases hq : (i.op == 12 || i.op == 13) with
  | false => rfl
  | true =>
    have ho : i.op = 12 ∨ i.op = 13 := by simpa using hq
    rw [findN_mid (hi ho)]
    cases findN (cs ++ bs) i.y with
    | none => rfl
    | some k =>
      simp only [Option.map_some, cond_true]
      rw [sh_lt, getD_mid]
def NoY (F : Cod) (is : List Ins) : Prop := ∀ i ∈ is, (i.op = 12 ∨ i.op = 13) → (F.name.toList == i.y.toList) = false
theorem chkL_mid {F : Cod} {cs bs : List Cod} : ∀ (is : List Ins), NoY F is → chkL (cs ++ F :: bs) (cs.length + 1) is = chkL (cs ++ bs) cs.length is
  | [], _ => rfl
  | i :: is, h => by
    rw [chkL, chkL, resL_mid (h i (by simp)), chkL_mid is fun j hj => h j (by simp [hj])]
theorem allL_tail {F : Cod} {cs bs : List Cod} : ∀ (rest : List Cod) (k : Nat), cs.length ≤ k → (∀ c ∈ rest, NoY F c.list) → allL (cs ++ F :: bs) (cs.length + 1) (k + 1) rest = allL (cs ++ bs) cs.length k rest
  | [], _, _, _ => rfl
  | c :: rest, k, hk, h => by
    rw [allL_cons, allL_cons, chkL_mid c.list (h c (by simp)), allL_tail rest (k + 1) (by omega) fun d hd => h d (by simp [hd])]
    have e : decide (cs.length + 1 ≤ k + 1) = decide (cs.length ≤ k) := by simp
    rw [e]
theorem allL_mid {F : Cod} {cs bs : List Cod} (hF : (chkL (cs ++ F :: bs) (cs.length + 1) F.list).2 = 0) : ∀ (pre : List Cod) (k : Nat), k + pre.length = cs.length → (∀ c ∈ pre, NoY F c.list) → (∀ c ∈ bs, NoY F c.list) →
    allL (cs ++ F :: bs) (cs.length + 1) k (pre ++ F :: bs) = allL (cs ++ bs) cs.length k (pre ++ bs)
  | [], k, hk, _, hb => by
    have hk' : k = cs.length := by simpa using hk
    subst hk'
    rw [List.nil_append, List.nil_append, allL_cons, hF]
    exact allL_tail bs cs.length (Nat.le_refl _) hb
  | c :: pre, k, hk, hp, hb => by
    rw [List.length_cons] at hk
    rw [List.cons_append, List.cons_append, allL_cons, allL_cons, chkL_mid c.list (hp c (by simp)), allL_mid hF pre (k + 1) (by omega) (fun d hd => hp d (by simp [hd])) hb]
    have e1 : decide (cs.length + 1 ≤ k) = false := by simp; omega
    have e2 : decide (cs.length ≤ k) = false := by simp; omega
    rw [e1, e2]
theorem mainL_mid {F : Cod} {cs bs : List Cod} (hm : (F.name.toList == mainS.toList) = false) : mainL (cs ++ F :: bs) (cs.length + 1) = (mainL (cs ++ bs) cs.length).map (shK cs.length) := by
  unfold mainL
  rw [findN_mid hm]
  cases findN (cs ++ bs) mainS with
  | none => rfl
  | some k =>
    simp only [Option.map_some]
    rw [sh_lt, getD_mid]
    cases (decide (k < cs.length) || decide (0 < ((cs ++ bs).getD k cod0).params.length)) <;> rfl
theorem addL_append : ∀ (xs ys : List T) (cs : List Cod), addL cs (xs ++ ys) = match addL cs xs with | (ds, some p) => (ds, some p) | (ds, none) => addL ds ys
  | [], ys, cs => by rw [List.nil_append, addL]
  | t :: xs, ys, cs => by
    rw [List.cons_append, addL_cons, addL_cons, addL_append xs ys cs, addL_append xs ys (cs ++ [lowerI t])]
    cases (t.kind == 6) with
    | false => rfl
    | true => cases (findN cs t.text).isSome <;> rfl
theorem addL_mid {F : Cod} {cs : List Cod} : ∀ (ts : List T) (ds : List Cod), (∀ t ∈ ts, t.kind = 6 → (F.name.toList == t.text.toList) = false) → ∃ es, (addL (cs ++ ds) ts).1 = cs ++ es ∧ addL (cs ++ F :: ds) ts = (cs ++ F :: es, (addL (cs ++ ds) ts).2)
  | [], ds, _ => ⟨ds, by rw [addL], by rw [addL, addL]⟩
  | t :: ts, ds, h => by
    have ih1 := addL_mid (F := F) (cs := cs) ts ds fun u hu => h u (by simp [hu])
    have ih2 := addL_mid (F := F) (cs := cs) ts (ds ++ [lowerI t]) fun u hu => h u (by simp [hu])
    rw [addL_cons, addL_cons]
    cases h6 : (t.kind == 6) with
    | false => exact ih1
    | true =>
      have hf := findN_mid (h t (by simp) (by simpa using h6)) cs ds
      have hsm : (findN (cs ++ F :: ds) t.text).isSome = (findN (cs ++ ds) t.text).isSome := by rw [hf]; cases findN (cs ++ ds) t.text <;> rfl
      rw [hsm]
      cases (findN (cs ++ ds) t.text).isSome with
      | true => exact ⟨ds, rfl, rfl⟩
      | false =>
        simp only [cond_true, cond_false]
        rw [List.append_assoc, show cs ++ F :: ds ++ [lowerI t] = cs ++ F :: (ds ++ [lowerI t]) by simp]
        exact ih2
theorem findN_no : ∀ {cs : List Cod} {s : ByteArray}, (∀ c ∈ cs, (c.name.toList == s.toList) = false) → findN cs s = none
  | [], _, _ => rfl
  | c :: cs, s, h => by rw [findN_cons, h c (by simp), findN_no fun d hd => h d (by simp [hd])]; rfl
end

section
open Go.RowKit

theorem Al.same : ∀ c : List Tok, Al (fun a b => a = b) c c
  | [] => .nil
  | _ :: c => .cons ⟨rfl, rfl, rfl, rfl⟩ (Al.same c)
mutual
theorem TR.eq : ∀ {t u : T}, TR (fun a b => a = b) t u → t = u
  | .mk k s n p ks, .mk k' s' n' p' ks', h => by
    have h1 : k = k' := h.kind
    have h2 : s = s' := h.text
    have h3 : n = n' := h.num
    have h4 : p = p' := h.place
    have h5 : ks = ks' := TsR.eq (show TsR _ ks (T.mk k' s' n' p' ks').kids from h.kids)
    subst h1 h2 h3 h4 h5
    rfl
theorem TsR.eq : ∀ {ts us : List T}, TsR (fun a b => a = b) ts us → ts = us
  | [], us, h => by unfold TsR at h; exact h.symm
  | t :: ts, us, h => by
    unfold TsR at h
    obtain ⟨u, us', rfl, h1, h2⟩ := h
    rw [TR.eq h1, TsR.eq h2]
end
/- The declarations of a list are the same with others behind them. -/
theorem unitF_more3 {x : List Tok} {e : Tok} (he : ¬ Con e) (hk : e.kind = 0) (hx : ∃ t ∈ x, ¬ Con t) : ∀ (n : Nat) {c : List Tok} {xs : List T} {k : List Tok}, (∀ t ∈ c, t.kind ≠ 0) → unitF n (c ++ [e]) = .ok (xs, k) → ∀ {ys : List T} {k2 : List Tok} (m : Nat), unitF m x = .ok (ys, k2) → x.length + 1 ≤ m →
    ∀ n2, (c ++ x).length + 1 ≤ n2 → ∃ zs k3, unitF n2 (c ++ x) = .ok (zs, k3) ∧ TsR (fun a b => a = b) (xs ++ ys) zs := by
  intro n
  induction n with
  | zero => intro c xs k _ h; cases h
  | succ n ih =>
    intro c xs k hc h ys k2 m hm hxm n2 hn2
    cases c with
    | nil =>
      have h1 : unitF (n + 1) ([] ++ [e]) = .ok ([], [e]) := by
        rw [unitF]
        show (bif e.kind == 0 then _ else _) = _
        rw [hk]
        rfl
      rw [h1] at h
      cases h
      have h2 := unitF_s (ρ := fun a b => a = b) (x := []) (x' := []) m n2 (Al.same x) (by simpa using hxm) (by simpa using hn2)
      rw [List.append_nil] at h2
      rw [List.nil_append] at hn2 ⊢
      rcases h2 with ⟨a, a', d, q, d', q', e1, e2, hv, _⟩ | ⟨p, p', ee, e1, _⟩ | ⟨hcon, _⟩
      · rw [hm] at e1
        cases e1
        exact ⟨a', _, e2, hv⟩
      · rw [hm] at e1; cases e1
      · obtain ⟨t, ht, hn⟩ := hx
        exact absurd (hcon t ht) hn
    | cons t c1 =>
      have ht0 : (t.kind == 0) = false := beq_eq_false_iff_ne.2 (hc t (by simp))
      rw [unitF] at h
      have h' : bd (declP (t :: c1 ++ [e])) (fun a l1 => bd (unitF n l1) fun xs l2 => .ok (a :: xs, l2)) = .ok (xs, k) := by
        have e1 : ((hdT (t :: c1 ++ [e])).kind == 0) = false := ht0
        rw [e1] at h
        exact h
      obtain ⟨n3, rfl⟩ : ∃ n3, n2 = n3 + 1 := ⟨n2 - 1, by omega⟩
      have hs := decl_s (ρ := fun a b => a = b) (x := [e]) (x' := x) (Al.same (t :: c1))
      rcases hs with ⟨a, a', d, q, d', q', e1, e2, hv, hd, hd', hal, hcon⟩ | ⟨p, p', ee, e1, _⟩ | ⟨_, _, _, hcl⟩
      · rw [bd_ok e1] at h'
        cases hu : unitF n (q ++ [e]) with
        | error er => rw [bd_err hu] at h'; cases h'
        | ok r =>
          obtain ⟨xs1, k1⟩ := r
          rw [bd_ok hu] at h'
          cases h'
          have hq : ∀ t ∈ q, t.kind ≠ 0 := fun u hu => hc u (by rw [hd]; exact List.mem_append_right _ hu)
          have hqq : q = q' := by
            have h4 : d.length = d'.length := by
              have h5 := Al.length hal
              have h6 := congrArg List.length hd
              have h7 := congrArg List.length hd'
              rw [List.length_append] at h6 h7
              omega
            exact (List.append_inj (hd.symm.trans hd') h4).2
          subst hqq
          have hlen : (q ++ x).length + 1 ≤ n3 := by
            have h5 := sz_sh (decl_sz _) _ _ e2
            unfold Sh at h5
            omega
          obtain ⟨zs, k3, hz, hr⟩ := ih hq hu m hm hxm n3 hlen
          refine ⟨a' :: zs, k3, ?_, ?_⟩
          · rw [unitF]
            have e3 : ((hdT (t :: c1 ++ x)).kind == 0) = false := ht0
            rw [e3]
            show bd (declP (t :: c1 ++ x)) _ = _
            rw [bd_ok e2, bd_ok hz]
          · exact TsR.cons hv hr
      · rw [bd_err e1] at h'; cases h'
      · obtain ⟨er, her⟩ := hcl rfl (fun u hu => by obtain rfl : u = e := List.mem_singleton.1 hu; exact he)
        rw [bd_err her] at h'
        cases h'


theorem parse_root {s : ByteArray} {t : T} {p : Nat} (h : parseB s = (t, p, 0)) : ∃ xs, t = .mk 0 e0 0 0 xs := by
  cases hl : lexAll s with
  | error q =>
    obtain ⟨k, c⟩ := q
    rw [parseB_err hl] at h
    simp only [Prod.mk.injEq] at h
    exact ⟨[], h.1.symm⟩
  | ok ts =>
    rw [parseB_ok hl] at h
    unfold parseToks unitP at h
    cases hu : unitF (ts.length + 1) ts with
    | error q =>
      obtain ⟨q1, q2⟩ := q
      rw [bd_err hu] at h
      simp only [Prod.mk.injEq] at h
      exact ⟨[], h.1.symm⟩
    | ok q =>
      obtain ⟨ys, k⟩ := q
      rw [bd_ok hu] at h
      simp only at h
      split at h
      · simp only [Prod.mk.injEq] at h; exact ⟨[], h.1.symm⟩
      · simp only [Prod.mk.injEq] at h; exact ⟨ys, h.1.symm⟩
/- The text of the function. -/
def fnB (s : ByteArray) : ByteArray := ⟨#[102, 110, 32]⟩ ++ s ++ ⟨#[40, 41, 32, 123, 32, 125]⟩
theorem fnB_list (s : ByteArray) : (fnB s).data.toList = 102 :: 110 :: 32 :: (s.data.toList ++ [40, 41, 32, 123, 32, 125]) := by
  unfold fnB
  rw [ByteArray.data_append, ByteArray.data_append]
  simp
theorem fnB_size (s : ByteArray) : (fnB s).size = s.size + 9 := by
  have h : (fnB s).data.toList.length = (fnB s).size := Array.length_toList
  have hs : s.data.toList.length = s.size := Array.length_toList
  rw [← h, fnB_list]
  simp
theorem fnB_drop (s : ByteArray) (j : Nat) : (fnB s).data.toList.drop (3 + s.size + j) = ([40, 41, 32, 123, 32, 125] : List UInt8).drop j := by
  have hs : s.data.toList.length = s.size := Array.length_toList
  rw [fnB_list, show 3 + s.size + j = (s.size + j) + 3 by omega]
  simp only [List.drop_succ_cons]
  rw [List.drop_append, List.drop_of_length_le (by omega), List.nil_append, show s.size + j - s.data.toList.length = j by omega]
theorem run_stop {p : Int → Bool} {x : UInt8} (h : p (x.toNat : Int) = false) : ∀ (l r : List UInt8), runLen p (l ++ x :: r) = runLen p l
  | [], r => by simp [runLen, h]
  | b :: l, r => by
    rw [List.cons_append, runLen, runLen, run_stop h l r]
def nTok (k : Nat) (x : ByteArray) (p : Nat) : Tok := ⟨k, x, 0, p⟩
theorem name_tok {s : ByteArray} (h : isNameB s = true) (r : List UInt8) : tokL (s.data.toList ++ 40 :: r) = .ok (1, s.size, 0) := by
  have h0 := h
  unfold isNameB at h
  simp only [Bool.and_eq_true, decide_eq_true_eq] at h
  obtain ⟨⟨⟨⟨h1, h2⟩, h3⟩, h4⟩, h5⟩ := h
  have hs : s.data.toList.length = s.size := Array.length_toList
  have hrun : runLen isWI s.data.toList = s.size := by
    unfold endOf at h4
    rw [List.drop_zero] at h4
    omega
  have hr : runLen isWI (s.data.toList ++ 40 :: r) = s.size := by rw [run_stop (by decide), hrun]
  have hd : ((s.data.toList ++ 40 :: r).getD 0 0) = s.data.toList.getD 0 0 := by
    cases hl : s.data.toList with
    | nil => rw [hl] at hs; simp at hs; omega
    | cons b l => rfl
  unfold tokL wordL
  rw [hd, hr, List.take_append_of_le_length (by omega), List.take_of_length_le (by omega)]
  have hl : isLI ((s.data.toList.getD 0 0).toNat : Int) = true := by
    have : at0 s = ((s.data.toList.getD 0 0).toNat : Int) := by
      unfold at0
      cases s.data.toList <;> rfl
    rw [← this]; exact h3
  rw [if_pos hl, if_neg (by omega)]
  have hk : keyList.contains s.data.toList = false := by
    have hb : isKeyB s = false := by simpa using h5
    exact hb
  rw [hk]
  rfl

theorem name_first {s : ByteArray} (h : isNameB s = true) (r : List UInt8) : isBlank ((s.data.toList ++ 40 :: r).getD 0 0) = false ∧ (s.data.toList ++ 40 :: r).getD 0 0 ≠ 35 := by
  unfold isNameB at h
  simp only [Bool.and_eq_true, decide_eq_true_eq] at h
  obtain ⟨⟨⟨⟨h1, h2⟩, h3⟩, h4⟩, h5⟩ := h
  have hs : s.data.toList.length = s.size := Array.length_toList
  unfold at0 at h3
  cases hl : s.data.toList with
  | nil => rw [hl] at hs; simp at hs; omega
  | cons b l =>
    rw [hl] at h3
    have hb : isLI (b.toNat : Int) = true := h3
    show isBlank b = false ∧ b ≠ 35
    constructor
    · cases hq : isBlank b with
      | false => rfl
      | true =>
        unfold isBlank at hq
        simp only [Bool.or_eq_true, beq_iff_eq] at hq
        rcases hq with rfl | rfl <;> exact absurd hb (by decide)
    · rintro rfl
      exact absurd hb (by decide)
theorem step_tok {S : ByteArray} {k kd n : Nat} {L : List UInt8} (hk : k + n ≤ S.size) (hn : 1 ≤ n) (hd : S.data.toList.drop k = L) (ht : tokL L = .ok (kd, n, 0)) (hb : isBlank (L.getD 0 0) = false) (hr : L.getD 0 0 ≠ 35) :
    lexFrom S k = more [⟨kd, S.extract k (k + n), 0, k⟩] (lexFrom S (k + n)) := by
  have hsz : (S.extract k (k + n)).size = n := by rw [ByteArray.size_extract]; omega
  have h := lex_tok (s := S) (k := k) (t := ⟨kd, S.extract k (k + n), 0, k⟩) (by omega) (by rw [bat_drop0, hd]; exact hb) (by rw [bat_drop0, hd]; exact hr) (by rw [tokL_eq, hd, ht]; rfl)
  rw [h]
  show more _ (lexFrom S (k + (S.extract k (k + n)).size)) = _
  rw [hsz]
theorem step_blank {S : ByteArray} {k : Nat} {L : List UInt8} (hk : k < S.size) (hd : S.data.toList.drop k = L) (hb : L.getD 0 0 = 32) : lexFrom S k = lexFrom S (k + 1) :=
  lex_blank hk (by rw [bat_drop0, hd, hb]; decide)
theorem text_at {S : ByteArray} {k n : Nat} {L : List UInt8} {x : ByteArray} (hd : S.data.toList.drop k = L) (hx : L.take n = x.data.toList) : S.extract k (k + n) = x := by
  apply bytes_ext
  rw [extract_list, hd, hx]
theorem fn_tok (X : List UInt8) : tokL (102 :: 110 :: 32 :: X) = .ok (2, 2, 0) := by rfl
def fnToks (s : ByteArray) (d : Nat) : List Tok :=
  [⟨2, bs [102, 110], 0, 0 + d⟩, ⟨1, s, 0, 3 + d⟩, ⟨4, bs [40], 0, 3 + s.size + 0 + d⟩, ⟨4, bs [41], 0, 3 + s.size + 1 + d⟩, ⟨4, bs [123], 0, 3 + s.size + 3 + d⟩, ⟨4, bs [125], 0, 3 + s.size + 5 + d⟩, ⟨0, e0, 0, (fnB s).size + d⟩]
theorem lex_fnB {s : ByteArray} (h : isNameB s = true) : lexFrom (fnB s) 0 = .ok (fnToks s 0) := by
  have hz := fnB_size s
  have h1 : 1 ≤ s.size ∧ s.size ≤ 16 := by
    unfold isNameB at h
    simp only [Bool.and_eq_true, decide_eq_true_eq] at h
    exact ⟨h.1.1.1.1, h.1.1.1.2⟩
  have hs : s.data.toList.length = s.size := Array.length_toList
  have d0 : (fnB s).data.toList.drop 0 = 102 :: 110 :: 32 :: (s.data.toList ++ 40 :: [41, 32, 123, 32, 125]) := fnB_list s
  have d2 : (fnB s).data.toList.drop 2 = 32 :: (s.data.toList ++ 40 :: [41, 32, 123, 32, 125]) := by rw [fnB_list]; rfl
  have d3 : (fnB s).data.toList.drop 3 = s.data.toList ++ 40 :: [41, 32, 123, 32, 125] := by rw [fnB_list]; rfl
  have hf := name_first h [41, 32, 123, 32, 125]
  rw [step_tok (by omega) (by omega) d0 (fn_tok _) (by show isBlank 102 = false; decide) (by show (102 : UInt8) ≠ 35; decide), step_blank (by omega) d2 rfl, step_tok (by omega) h1.1 d3 (name_tok h _) hf.1 hf.2]
  rw [step_tok (k := 3 + s.size) (n := 1) (by omega) (by omega) (fnB_drop s 0) (show tokL [40, 41, 32, 123, 32, 125] = .ok (4, 1, 0) by rfl) (by decide) (by decide)]
  rw [step_tok (k := 3 + s.size + 1) (n := 1) (by omega) (by omega) (fnB_drop s 1) (show tokL [41, 32, 123, 32, 125] = .ok (4, 1, 0) by rfl) (by decide) (by decide)]
  rw [step_blank (k := 3 + s.size + 2) (by omega) (fnB_drop s 2) (by rfl)]
  rw [step_tok (k := 3 + s.size + 3) (n := 1) (by omega) (by omega) (fnB_drop s 3) (show tokL [123, 32, 125] = .ok (4, 1, 0) by rfl) (by decide) (by decide)]
  rw [step_blank (k := 3 + s.size + 4) (by omega) (fnB_drop s 4) (by rfl)]
  rw [step_tok (k := 3 + s.size + 5) (n := 1) (by omega) (by omega) (fnB_drop s 5) (show tokL [125] = .ok (4, 1, 0) by rfl) (by decide) (by decide)]
  rw [lex_end (by omega)]
  rw [text_at d0 (x := bs [102, 110]) rfl, text_at d3 (x := s) (by rw [List.take_append_of_le_length (by omega), List.take_of_length_le (by omega)])]
  rw [text_at (k := 3 + s.size) (fnB_drop s 0) (x := bs [40]) rfl, text_at (fnB_drop s 1) (x := bs [41]) rfl, text_at (fnB_drop s 3) (x := bs [123]) rfl, text_at (fnB_drop s 5) (x := bs [125]) rfl]
  rfl

/- The tree of the function. -/
def fnT (s : ByteArray) (p q : Nat) : T := .mk 6 s 0 p [.mk 8 e0 0 q [], .mk 9 e0 0 q []]
theorem unit_fn (s : ByteArray) (p0 p1 p2 p3 p4 p5 p6 : Nat) : unitF 8 [⟨2, bs [102, 110], 0, p0⟩, ⟨1, s, 0, p1⟩, ⟨4, bs [40], 0, p2⟩, ⟨4, bs [41], 0, p3⟩, ⟨4, bs [123], 0, p4⟩, ⟨4, bs [125], 0, p5⟩, ⟨0, e0, 0, p6⟩] = .ok ([fnT s p0 p4], [⟨0, e0, 0, p6⟩]) := by kernel_rfl
theorem lower_fnT (s : ByteArray) (p q : Nat) : (lowerI (fnT s p q)).list = [retI (.mk 9 e0 0 q [])] := by rfl
theorem parse_more {a s : ByteArray} {ta tc : T} {p q : Nat} (hn : isNameB s = true) (ha : parseB a = (ta, p, 0)) (hc : parseB (joinB a (fnB s)) = (tc, q, 0)) : ∃ p' q', tc.kids = ta.kids ++ [fnT s p' q'] := by
  obtain ⟨xs, rfl⟩ : ∃ xs, ta = .mk 0 e0 0 0 xs := parse_root ha
  obtain ⟨zs', rfl⟩ : ∃ xs, tc = .mk 0 e0 0 0 xs := parse_root hc
  obtain ⟨tt, hla, ka, hua⟩ := parse_unit ha
  obtain ⟨tj, hlj, kj, huj⟩ := parse_unit hc
  have hz := fnB_size s
  have hjz := joinB_size a (fnB s)
  have hs : a.size + (fnB s).size + 1 ≤ 16384 := by
    unfold lexAll at hlj
    split at hlj
    · cases hlj
    · omega
  have hlb : lexAll (fnB s) = .ok (fnToks s 0) := by
    unfold lexAll
    rw [if_neg (by omega), lex_fnB hn]
  have hj := lex_join hla hlb hs
  obtain ⟨c, hcc, hk0⟩ := lex_kinds 0 tt (lexAll_from hla).1
  have hua' : unitF (tt.length + 1) (c ++ [endTok a]) = .ok (xs, ka) := by rw [← hcc]; exact hua
  have hdl : tt.dropLast = c := by rw [hcc]; simp
  have e2 := unit_fn s (0 + 0 + (a.size + 1)) (3 + 0 + (a.size + 1)) (3 + s.size + 0 + 0 + (a.size + 1)) (3 + s.size + 1 + 0 + (a.size + 1)) (3 + s.size + 3 + 0 + (a.size + 1)) (3 + s.size + 5 + 0 + (a.size + 1)) ((fnB s).size + 0 + (a.size + 1))
  have hx : ∃ t ∈ (fnToks s 0).map (shiftTok (a.size + 1)), ¬ Con t := by
    obtain ⟨t0, ht0, hn0⟩ := lexAll_end hlb
    exact ⟨shiftTok (a.size + 1) t0, List.mem_map_of_mem ht0, hn0⟩
  obtain ⟨zs, k3, hz1, hz2⟩ := unitF_more3 (x := (fnToks s 0).map (shiftTok (a.size + 1))) (end_nc a) rfl hx (tt.length + 1) hk0 hua' 8 e2 (Nat.le_refl _) ((c ++ (fnToks s 0).map (shiftTok (a.size + 1))).length + 1) (Nat.le_refl _)
  have hzs := TsR.eq hz2
  rw [hlj] at hj
  cases hj
  rw [hdl, hz1] at huj
  cases huj
  exact ⟨_, _, by rw [← hzs]; rfl⟩
end

section
open Go.RowKit

theorem notName {s : ByteArray} {t : T} {x : ByteArray} (hu : t.usesB s = false) (hx : t.usesB x = true) : (s.toList == x.toList) = false := by
  cases h : (s.toList == x.toList) with
  | false => rfl
  | true =>
    have e : s = x := toList_eq_iff.1 (by simpa using h)
    rw [e, hx] at hu
    cases hu
theorem kid_not {s : ByteArray} {t u : T} (h : t.usesB s = false) (hm : u ∈ t.kids) : u.usesB s = false := by
  cases hq : u.usesB s with
  | false => rfl
  | true => rw [uses_kid hm hq] at h; cases h
theorem link_more {ta tb tc f : T} (ga : LinkOk ta) (gb : LinkOk tb) (hc : tc.kids = ta.kids ++ [f]) (h6 : f.kind = 6) {b : T} (hl : (lowerI f).list = [retI b]) (hua : ta.usesB f.text = false) (hub : tb.usesB f.text = false) (hm : (f.text.toList == mainS.toList) = false) :
    (linkL tc tb).2 = (linkL ta tb).2 := by
  have hFn : (lowerI f).name = f.text := lowerI_name h6
  have hsz : ∀ {x t : T}, LinkOk x → t ∈ x.kids → t.whole ∧ t.size ≤ 5000 := fun {x t} hx h => by
    obtain ⟨q, hq⟩ := List.mem_iff_getElem?.1 h
    have h1 := sizes_mem hq
    have h2 : x.size = 1 + sizes x.kids := by cases x; rw [size_mk]; rfl
    have h3 := hx.s
    exact ⟨wholes_mem (whole_eq.1 hx.w).2 h, by omega⟩
  have noY : ∀ {x t : T}, LinkOk x → x.usesB f.text = false → t ∈ x.kids → NoY (lowerI f) (lowerI t).list := fun {x t} hx hu ht i hi ho => by
    rw [hFn]
    exact notName (kid_not hu ht) (fn_uses (hsz hx ht).1 (hsz hx ht).2 hi ho)
  have noN : ∀ {x t : T}, x.usesB f.text = false → t ∈ x.kids → (f.text.toList == t.text.toList) = false := fun hu ht => notName (kid_not hu ht) (uses_own _)
  unfold linkL
  rw [hc, addL_append]
  cases h1 : addL [] ta.kids with
  | mk cs r1 =>
    cases r1 with
    | some p => rfl
    | none =>
      have hcs := addL_none _ _ _ h1
      have hcm : ∀ c ∈ cs, ∃ t ∈ ta.kids, t.kind = 6 ∧ c = lowerI t := fun c hc => by
        rw [hcs, List.nil_append] at hc
        obtain ⟨t, ht, rfl⟩ := List.mem_map.1 hc
        obtain ⟨hm1, hm2⟩ := List.mem_filter.1 ht
        exact ⟨t, hm1, by simpa using hm2, rfl⟩
      have hno : findN cs f.text = none := findN_no fun c hc => by
        obtain ⟨t, ht, hk, rfl⟩ := hcm c hc
        rw [lowerI_name hk]
        have := noN hua ht
        rw [beq_eq_false_iff_ne] at this ⊢
        exact fun e => this e.symm
      have hadd : addL cs [f] = (cs ++ [lowerI f], none) := by
        rw [addL_cons, show (f.kind == 6) = true by simpa using h6, hno, addL]
        rfl
      simp only
      rw [hadd]
      simp only
      obtain ⟨es, he1, he2⟩ := addL_mid (F := lowerI f) (cs := cs) tb.kids [] (fun t ht _ => by rw [hFn]; exact noN hub ht)
      rw [show cs ++ [lowerI f] = cs ++ lowerI f :: [] from rfl, he2, List.append_nil]
      rw [List.append_nil] at he1
      cases h2 : addL cs tb.kids with
      | mk ds r2 =>
        rw [h2] at he1
        have hds : ds = cs ++ es := he1
        cases r2 with
        | some p => rfl
        | none =>
          have hd2 := addL_none _ _ _ h2
          have hes : es = (fnsL tb.kids).map lowerI := by
            have := hds.symm.trans hd2
            exact List.append_cancel_left this
          simp only
          rw [hds]
          have hF0 : (chkL (cs ++ lowerI f :: es) (cs.length + 1) (lowerI f).list).2 = 0 := by rw [hl]; rfl
          have hall := allL_mid (F := lowerI f) (cs := cs) (bs := es) hF0 cs 0 (by simp) (fun c hc => by obtain ⟨t, ht, _, rfl⟩ := hcm c hc; exact noY ga hua ht) (fun c hc => by
            rw [hes] at hc
            obtain ⟨t, ht, rfl⟩ := List.mem_map.1 hc
            exact noY gb hub (List.mem_filter.1 ht).1)
          have hlen : (cs ++ [lowerI f]).length = cs.length + 1 := by simp
          rw [hlen, hall, mainL_mid (by rw [hFn]; exact hm)]
          cases ((allL (cs ++ es) cs.length 0 (cs ++ es)).2.2 != 0) with
          | true => rfl
          | false =>
            cases mainL (cs ++ es) cs.length with
            | none => rfl
            | some k => rfl
end

section
open Go.RowKit

theorem usesBs_drop {p : ByteArray} {ks : List T} {k : Nat} {t : T} (h : ks[k]? = some t) : usesBs p (ks.drop k) = (t.usesB p || usesBs p (ks.drop (k + 1))) := by
  have hlt := (List.getElem?_eq_some_iff.1 h).1
  rw [List.drop_eq_getElem_cons hlt, (List.getElem?_eq_some_iff.1 h).2, usesBs_cons]
def UsRel (w : World) (p : ByteArray) (ks : List T) (g : Nat) (i : Value) (wr : World) : Prop :=
  ∃ k : Nat, k ≤ ks.length ∧ ks.length ≤ k + g ∧ i = .int .i64 k ∧ usesBs p ks = usesBs p (ks.drop k) ∧ Below w.heap.size w wr

set_option maxRecDepth 100000 in
set_option maxHeartbeats 2000000 in
theorem uses_any (p : ByteArray) : ∀ (n : Nat) (t : T), t.size ≤ n → ∀ {w : World} {S : Nat → Prop} {kv : Value}, KAt 25 w t.kids S kv → t.size ≤ 100000 →
    Calls Tryd.prog 29 #[NodeV t kv, .string p] w fun e w' => e = .returned (.bool (t.usesB p)) ∧ Below w.heap.size w w' := by
  intro n
  induction n with
  | zero => intro t ht; cases t; rw [size_mk] at ht; omega
  | succ n ih =>
    intro t ht w S kv hk hbig
    have hts : t.size = 1 + sizes t.kids := by cases t; rw [size_mk]; rfl
    have hct := uses_eq p t
    have HTS := Lib.hid hts
    have HT := Lib.hid ht
    have HBIG := Lib.hid hbig
    have HIH := Lib.hid (@ih)
    have hkl := len_sizes t.kids
    have hkl2 : t.kids.length ≤ 100000 := by omega
    unfold NodeV
    generalize t.text = q at *
    have h4 : (q ≠ p) ∨ q = p := by by_cases h : q = p; · exact .inr h
                                    · exact .inl h
    rcases h4 with b0 | rfl
    · have hown : (q.toList == p.toList) = false := by simpa using fun h => b0 (toList_eq_iff.1 h)
      rw [hown] at hct
      rcases hk.form with ⟨rfl, hnil⟩ | ⟨g, cap, rfl, hg, hcap, hcm, hget⟩
      · have HN := Lib.hid hnil
        have HCT := Lib.hid hct
        clear hk ih ht hbig hts hnil hkl hkl2 hct
        go_enter Tryd.func29, Tryd.ntmps29
        go_wp2_with fail
        refine wp_loop_rounds 1 ?_
        rw [rounds_succ]
        go_wp2_with fail
        go_ret
        refine ⟨?_, (Below.refl _ _).alloc (Nat.le_refl _) _⟩
        rw [HCT.out, HN.out, usesBs_nil]
        rfl
      · have HG := Lib.hid hget
        have HCAP := Lib.hid hcap
        have HCT := Lib.hid hct
        clear hk ih ht hbig hts hget hkl hcap hct
        unfold maxLen at hcm
        go_enter Tryd.func29, Tryd.ntmps29
        go_wp2_with fail
        go_loopg [14] t.kids.length (fun gk i wr => UsRel w p t.kids gk i wr)
        case atStart => exact ⟨0, by omega, by omega, rfl, by simp, (Below.refl _ _).alloc (Nat.le_refl _) _⟩
        case round =>
          obtain ⟨k, hk, hgk, rfl, hst, hbel⟩ := hrel
          have HB := Lib.hid hbel
          have HST := Lib.hid hst
          have hzw := hbel.size
          clear hbel hst
          by_cases hlt : k < t.kids.length
          · obtain ⟨u, hr, hT⟩ := HG.out k t.kids[k] (List.getElem?_eq_getElem hlt)
            have hne := List.getElem?_eq_getElem hlt
            generalize t.kids[k] = tk at hr hT hne
            have HR := Lib.hid (rangeAt_below hr ((HB.out.mono (Nat.le_refl _))) hg)
            have HTK := Lib.hid (hT.below (HB.out))
            have HDR := Lib.hid (usesBs_drop (p := p) hne)
            have hcap := HCAP.out
            have hks := sizes_mem hne
            clear hr hT hne
            go_wp2_with (first
              | ((with_reducible refine at_ld 25 (.tmp 16) ?_); refine wpList_load_mid rfl 25 (.tmp 16) rfl g (k * 5) rfl (nodeCells tk u) _ HR.out Tryd.underlying25 rfl Tryd.sizeNode ?_)
              | ((with_reducible refine at_st 25 (.tmp 6) ?_); refine wpList_store_new rfl 25 (.tmp 6) (.tmp 17) rfl (nodeCells tk u) (old := zeroNodeCells) rfl rfl Tryd.sizeNode rfl (nodeCells_one _ _ HTK.out.kat.one) ?_)
              | ((with_reducible refine at_ld 25 (.tmp 6) ?_); refine wpList_load_blk rfl 25 (.tmp 6) rfl wr.heap.size (nodeCells tk u) rfl (Blk.new wr _ _) Tryd.underlying25 rfl Tryd.sizeNode ?_))
            refine (HIH.out tk (by have h2 := HTS.out; have h3 := HT.out; omega) (HTK.out.alloc _).kat (by have h2 := HTS.out; have h3 := HBIG.out; omega)).mono ?_
            rintro e w2 ⟨rfl, hb2⟩
            have HB2 := Lib.hid ((HB.out.alloc hzw _).trans (hb2.mono (by simp; omega)))
            clear hb2
            cases hb : tk.usesB p with
            | true =>
              go_wp2_with fail
              go_ret
              exact ⟨by rw [HCT.out, HST.out, HDR.out, hb]; simp, HB2.out⟩
            | false =>
              go_wp2_with fail
              go_roundg (gk - 1)
              case measure => omega
              case rel => exact ⟨k + 1, by omega, by omega, by go_num, by rw [HST.out, HDR.out, hb]; rfl, HB2.out⟩
          · have HE := Lib.hid (show usesBs p t.kids = false by rw [HST.out, List.drop_of_length_le (by omega), usesBs_nil])
            go_wp2_with fail
            go_ret
            exact ⟨by rw [HCT.out, HE.out]; rfl, HB.out⟩
    · have hown : (q.toList == q.toList) = true := by simp
      rw [hown] at hct
      have HCT := Lib.hid hct
      have HB := Lib.hid (show Below w.heap.size w (w.alloc (.cells [.int .i64 t.kind, .string q, .int .i64 t.num, .int .i64 t.place, kv].toArray 25)) from (Below.refl _ _).alloc (Nat.le_refl _) _)
      clear hk ih ht hbig hts hkl hkl2 hct
      go_enter Tryd.func29, Tryd.ntmps29
      go_wp2_with fail
      go_ret
      exact ⟨by rw [HCT.out]; rfl, HB.out⟩
end

section
open Go.RowKit

set_option maxHeartbeats 400000 in
theorem isName_any (s : ByteArray) (w : World) (hs : s.size ≤ maxLen) (ht : Tabs w) :
    Calls Tryd.prog 28 #[.string s] w fun e w' => e = .returned (.bool (isNameB s)) ∧ w = w' := by
  by_cases h0 : s.size = 0
  · have hl := toList_nil s h0
    have HN := Lib.hid (isName_none s h0)
    clear h0
    go_enter Tryd.func28, Tryd.ntmps28
    go_wp2
    go_ret
    exact ⟨ret_bool HN.out.symm, rfl⟩
  · have hp : 0 < s.size := by omega
    have hl := toList_ne s hp
    have hl2 : (!s.toList.isEmpty) = true := by simp [hl]
    have hl3 : s.toList.isEmpty = false := by simp [hl]
    clear h0
    go_enter Tryd.func28, Tryd.ntmps28
    go_wp2_with (first
      | (go_at_call 45; refine (beginsWord_any _ _).mono ?_; rintro e w' ⟨rfl, rfl⟩)
      | (go_at_call 46; refine (runEnd_word _ _ _ hs (by omega) (by omega)).mono ?_; rintro e w' ⟨rfl, rfl⟩)
      | (go_at_call 48; refine (isKey_any _ _ ht).mono ?_; rintro e w' ⟨rfl, rfl⟩))
    all_goals go_ret
    all_goals refine ⟨ret_bool ?_, rfl⟩
    · rw [isName_key s hp (by omega) (by assumption) (by assumption)]
    · rw [isName_run s (by assumption)]
    · rw [isName_first s hp (by assumption)]
    · rw [isName_long s (by omega)]
end

end Go.Proofs.YtnmpfpnldcgbaaaDoor
