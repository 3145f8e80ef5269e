/- Plain facts on tokens that are written with a blank behind each: they are read as the same tokens, but for their places. Nothing of the program is walked here. -/
import Derived.Test.YtflhniiemmahmaaDoorJoin
namespace Go.Proofs.YtflhniiemmahmaaDoor
open Go.RowKit

def joinT (ts : List Tok) : List UInt8 := ts.flatMap fun t => t.text.data.toList ++ [32]

def strip (t : Tok) : Nat × ByteArray × Nat := (t.kind, t.text, t.num)

theorem joinT_cons (t : Tok) (ts : List Tok) : joinT (t :: ts) = t.text.data.toList ++ 32 :: joinT ts := by simp [joinT]

theorem drop_more {S : ByteArray} {q n : Nat} {l r : List UInt8} (h : S.data.toList.drop q = l ++ r) (hn : l.length = n) : S.data.toList.drop (q + n) = r := by
  rw [← List.drop_drop, h, List.drop_append, List.drop_of_length_le (by omega), List.nil_append, show n - l.length = 0 by omega, List.drop_zero]

theorem lt_of_drop {S : ByteArray} {q : Nat} {b : UInt8} {r : List UInt8} (h : S.data.toList.drop q = b :: r) : q < S.size ∧ bat S q = b := by
  constructor
  · have := congrArg List.length h
    rw [drop_len, List.length_cons] at this
    omega
  · rw [bat_drop0, h]; rfl

theorem lex_again {s : ByteArray} : ∀ j ts, lexFrom s j = .ok ts → ∀ (S : ByteArray) (q : Nat), S.data.toList.drop q = joinT ts → ∃ ts', lexFrom S q = .ok ts' ∧ ts'.map strip = ts.map strip := by
  intro j
  apply lex_ind (s := s) (P := fun j r => ∀ ts, r = .ok ts → ∀ (S : ByteArray) (q : Nat), S.data.toList.drop q = joinT ts → ∃ ts', lexFrom S q = .ok ts' ∧ ts'.map strip = ts.map strip)
  · intro k _ ts h S q hq
    cases h
    have hq' : S.data.toList.drop q = 32 :: [] := hq
    obtain ⟨h1, h2⟩ := lt_of_drop hq'
    have h3 : S.size = q + 1 := by
      have := congrArg List.length hq'
      rw [drop_len] at this
      simp at this
      omega
    exact ⟨[endTok S], by rw [lex_blank h1 (by rw [h2]; decide), lex_end (by omega)], rfl⟩
  · intro k _ _ ih; exact ih
  · intro k _ _ ih; exact ih
  · intro k e _ _ _ _ ts h; cases h
  · intro k t hk hb hr ht ih ts h S q hq
    obtain ⟨r', hr', rfl⟩ := more_ok h
    obtain ⟨kd, n, v, h3, ht3, hn, hn1, hn2⟩ := tok_three hk ht
    have hT : t.text.data.toList = (s.data.toList.drop k).take n := by rw [ht3]; exact extract_list s k n
    have hTl : t.text.data.toList.length = n := by rw [hT, List.length_take, drop_len]; omega
    have hq' : S.data.toList.drop q = t.text.data.toList ++ 32 :: joinT r' := by rw [hq, List.singleton_append, joinT_cons]
    have htk : (S.data.toList.drop q).take n = (s.data.toList.drop k).take n := by
      rw [hq', List.take_append_of_le_length (by omega), ← hTl, List.take_length, hT]
      congr 1
      rw [List.length_take, drop_len]
      omega
    have h4 : tokL (S.data.toList.drop q) = .ok (kd, n, v) := by
      refine tokL_congr (drop_ne hk) h3 htk (by rw [hq', List.length_append]; omega) ?_
      right; right; left
      rw [hq', List.getElem?_append_right (by omega), show n - t.text.data.toList.length = 0 by omega]
      rfl
    have hhd := head_congr hn1 htk
    have hbq : bat S q = bat s k := by rw [bat_drop0, hhd, ← bat_drop0]
    have hqs : q + n + 1 ≤ S.size := by
      have := congrArg List.length hq'
      rw [drop_len, List.length_append, List.length_cons] at this
      omega
    have hx : S.extract q (q + n) = t.text := by
      apply bytes_ext
      rw [extract_list, htk, hT]
    have htok : tokAt S q = .ok ⟨kd, t.text, v, q⟩ := by
      rw [tokL_eq, h4]
      show Except.ok _ = _
      rw [hx]
    have hnext := drop_more hq' hTl
    obtain ⟨h5, h6⟩ := lt_of_drop hnext
    have hnext2 : S.data.toList.drop (q + n + 1) = joinT r' := by
      rw [← List.drop_drop, hnext]
      rfl
    obtain ⟨ts', h7, h8⟩ := ih r' hr' S (q + n + 1) hnext2
    refine ⟨[⟨kd, t.text, v, q⟩] ++ ts', ?_, ?_⟩
    · rw [lex_tok (by omega) (by rw [hbq]; exact hb) (by rw [hbq]; exact hr) htok]
      simp only [hn]
      rw [lex_blank h5 (by rw [h6]; decide), h7]
      rfl
    · rw [List.map_append, List.map_append, h8]
      congr 1
      have h9 : t.kind = kd ∧ t.num = v := by rw [ht3]; exact ⟨rfl, rfl⟩
      simp [strip, h9.1, h9.2]

theorem joinT_snoc (ts : List Tok) (t : Tok) : joinT (ts ++ [t]) = joinT ts ++ (t.text.data.toList ++ [32]) := by simp [joinT]

theorem joinT_take (ts : List Tok) (k : Nat) (hk : k < ts.length) : joinT (ts.take (k + 1)) = joinT (ts.take k) ++ (ts[k].text.data.toList ++ [32]) := by
  rw [List.take_succ_eq_append_getElem hk, joinT_snoc]

theorem cat_list (a b : ByteArray) : (a ++ b).data.toList = a.data.toList ++ b.data.toList := by
  rw [ByteArray.data_append]
  simp

end Go.Proofs.YtflhniiemmahmaaDoor
