/- Two texts whose tokens are alike but for places give alike trees, or the same fault; and tokens that are written with blanks and remarks around them are the same tokens. Nothing of the program is walked here. -/
import Derived.Test.YtflhniiemmahmaaDoorAlikeB
import Derived.Test.YtflhniiemmahmaaDoorAgain
namespace Go.Proofs.YtflhniiemmahmaaDoor
open Go.RowKit

theorem Al.append {ρ : Nat → Nat → Prop} {a a' b b' : List Tok} (h : Al ρ a a') (h' : Al ρ b b') : Al ρ (a ++ b) (a' ++ b') := by
  induction h with
  | nil => exact h'
  | cons ht _ ih => exact .cons ht ih
theorem Al.length {ρ : Nat → Nat → Prop} {a a' : List Tok} (h : Al ρ a a') : a.length = a'.length := by
  induction h with
  | nil => rfl
  | cons _ _ ih => simp [ih]

/- A list that ends with what no reader takes is read within. -/
theorem unit_full {ρ : Nat → Nat → Prop} {l l' : List Tok} (h : Al ρ l l') (hend : ∃ t ∈ l, ¬ Con t) :
    (∃ xs xs' k k', unitP l = .ok (.mk 0 e0 0 0 xs, k) ∧ unitP l' = .ok (.mk 0 e0 0 0 xs', k') ∧ TsR ρ xs xs') ∨ (∃ p p' e, unitP l = .error (p, e) ∧ unitP l' = .error (p', e) ∧ ρ p p' ∧ ∃ t ∈ l, p = t.place) := by
  have h1 := unitF_s (x := []) (x' := []) (l.length + 1) (l'.length + 1) h (by simp) (by simp)
  rw [List.append_nil, List.append_nil] at h1
  rcases h1 with ⟨a, a', d, k, d', k', e1, e2, hv, _⟩ | ⟨p, p', e, e1, e2, hr, hm⟩ | ⟨hc, _⟩
  · exact .inl ⟨a, a', _, _, by unfold unitP; exact bd_ok e1 _, by unfold unitP; exact bd_ok e2 _, hv⟩
  · exact .inr ⟨p, p', e, by unfold unitP; exact bd_err e1 _, by unfold unitP; exact bd_err e2 _, hr, hm⟩
  · obtain ⟨t, ht, hn⟩ := hend
    exact absurd (hc t ht) hn

theorem parse_full {ρ : Nat → Nat → Prop} {l l' : List Tok} (h : Al ρ l l') (hend : ∃ t ∈ l, ¬ Con t) :
    (∃ xs xs', parseToks l = (.mk 0 e0 0 0 xs, 0, 0) ∧ parseToks l' = (.mk 0 e0 0 0 xs', 0, 0) ∧ TsR ρ xs xs') ∨ (∃ p p' e, parseToks l = (zeroT, p, e) ∧ parseToks l' = (zeroT, p', e) ∧ ρ p p') ∨ (parseToks l = (zeroT, 0, 22) ∧ parseToks l' = (zeroT, 0, 22)) := by
  rcases unit_full h hend with ⟨xs, xs', k, k', e1, e2, hv⟩ | ⟨p, p', e, e1, e2, hr, _⟩
  · have hz : (T.mk 0 e0 0 0 xs).size = (T.mk 0 e0 0 0 xs').size := by rw [size_mk, size_mk, TsR.sizes hv]
    by_cases hb : 4096 < (T.mk 0 e0 0 0 xs).size
    · exact .inr (.inr ⟨by unfold parseToks; rw [e1]; exact if_pos hb, by unfold parseToks; rw [e2]; exact if_pos (hz ▸ hb)⟩)
    · exact .inl ⟨xs, xs', by unfold parseToks; rw [e1]; exact if_neg hb, by unfold parseToks; rw [e2]; exact if_neg (hz ▸ hb), hv⟩
  · exact .inr (.inl ⟨p, p', e, by unfold parseToks; rw [e1], by unfold parseToks; rw [e2], hr⟩)

theorem lex_end_mem {s : ByteArray} : ∀ j ts, lexFrom s j = .ok ts → endTok s ∈ ts := by
  intro j
  apply lex_ind (s := s) (P := fun _ r => ∀ ts, r = .ok ts → endTok s ∈ ts)
  · intro k _ ts h; cases h; simp
  · intro k _ _ ih; exact ih
  · intro k _ _ ih; exact ih
  · intro k e _ _ _ _ ts h; cases h
  · intro k t _ _ _ _ ih ts h
    obtain ⟨r', hr', rfl⟩ := more_ok h
    exact List.mem_append_right _ (ih r' hr')
theorem end_nc (s : ByteArray) : ¬ Con (endTok s) := by rintro (h | h | h) <;> first | (simp [endTok] at h; done) | exact absurd (show 0 < (ByteArray.mk #[]).size from h) (by decide)
theorem lexAll_from {s : ByteArray} {ts : List Tok} (h : lexAll s = .ok ts) : lexFrom s 0 = .ok ts ∧ s.size ≤ 16384 := by
  unfold lexAll at h
  split at h
  · cases h
  · exact ⟨h, by omega⟩
theorem lexAll_end {s : ByteArray} {ts : List Tok} (h : lexAll s = .ok ts) : ∃ t ∈ ts, ¬ Con t := ⟨_, lex_end_mem 0 ts (lexAll_from h).1, end_nc s⟩

theorem parseB_ok {s : ByteArray} {ts : List Tok} (h : lexAll s = .ok ts) : parseB s = parseToks ts := by unfold parseB; rw [h]
theorem parseB_err {s : ByteArray} {p : Nat} {e : Int} (h : lexAll s = .error (p, e)) : parseB s = (zeroT, p, e) := by unfold parseB; rw [h]

/- Tokens with blanks and remarks around each. -/
def joinX (ts : List Tok) : List UInt8 := ts.flatMap fun t => 10 :: (t.text.data.toList ++ [32, 35, 120, 10])
theorem joinX_cons (t : Tok) (ts : List Tok) : joinX (t :: ts) = 10 :: (t.text.data.toList ++ 32 :: 35 :: 120 :: 10 :: joinX ts) := by simp [joinX]
theorem joinX_snoc (ts : List Tok) (t : Tok) : joinX (ts ++ [t]) = joinX ts ++ (10 :: (t.text.data.toList ++ [32, 35, 120, 10])) := by simp [joinX]
theorem joinX_take (ts : List Tok) (k : Nat) (hk : k < ts.length) : joinX (ts.take (k + 1)) = joinX (ts.take k) ++ (10 :: (ts[k].text.data.toList ++ [32, 35, 120, 10])) := by
  rw [List.take_succ_eq_append_getElem hk, joinX_snoc]

theorem lex_gapX {S : ByteArray} {q : Nat} {r : List UInt8} (h : S.data.toList.drop q = 32 :: 35 :: 120 :: 10 :: r) : lexFrom S q = lexFrom S (q + 4) ∧ S.data.toList.drop (q + 4) = r := by
  have d1 : S.data.toList.drop (q + 1) = 35 :: 120 :: 10 :: r := by rw [← List.drop_drop, h]; rfl
  have d3 : S.data.toList.drop (q + 1 + 2) = 10 :: r := by rw [← List.drop_drop, d1]; rfl
  have d4 : S.data.toList.drop (q + 4) = r := by rw [show q + 4 = q + 1 + 2 + 1 by omega, ← List.drop_drop, d3]; rfl
  obtain ⟨a0, b0⟩ := lt_of_drop h
  obtain ⟨a1, b1⟩ := lt_of_drop d1
  obtain ⟨a3, b3⟩ := lt_of_drop d3
  have hE : endOf isRI S (q + 1) = q + 1 + 2 := by
    unfold endOf
    rw [d1]
    rfl
  exact ⟨by rw [lex_blank a0 (by rw [b0]; decide), lex_remark a1 b1, hE, lex_blank a3 (by rw [b3]; decide)], d4⟩

theorem lex_blanks {s : ByteArray} : ∀ j ts, lexFrom s j = .ok ts → ∀ (S : ByteArray) (q : Nat), S.data.toList.drop q = joinX ts → ∃ ts', lexFrom S q = .ok ts' ∧ Al (fun _ _ => True) ts ts' := by
  intro j
  apply lex_ind (s := s) (P := fun j r => ∀ ts, r = .ok ts → ∀ (S : ByteArray) (q : Nat), S.data.toList.drop q = joinX ts → ∃ ts', lexFrom S q = .ok ts' ∧ Al (fun _ _ => True) ts ts')
  · intro k _ ts h S q hq
    cases h
    have hq' : S.data.toList.drop q = 10 :: 32 :: 35 :: 120 :: 10 :: [] := hq
    obtain ⟨h1, h2⟩ := lt_of_drop hq'
    have hd : S.data.toList.drop (q + 1) = 32 :: 35 :: 120 :: 10 :: [] := by rw [← List.drop_drop, hq']; rfl
    obtain ⟨h3, h4⟩ := lex_gapX hd
    have h5 : S.size ≤ q + 1 + 4 := by
      have := congrArg List.length h4
      rw [drop_len] at this
      simp at this
      omega
    exact ⟨[endTok S], by rw [lex_blank h1 (by rw [h2]; decide), h3, lex_end h5], .cons ⟨rfl, rfl, rfl, trivial⟩ .nil⟩
  · intro k _ _ ih; exact ih
  · intro k _ _ ih; exact ih
  · intro k e _ _ _ _ ts h; cases h
  · intro k t hk hb hr ht ih ts h S q0 hq0
    obtain ⟨r', hr', rfl⟩ := more_ok h
    obtain ⟨kd, n, v, h3, ht3, hn, hn1, hn2⟩ := tok_three hk ht
    have hT : t.text.data.toList = (s.data.toList.drop k).take n := by rw [ht3]; exact extract_list s k n
    have hTl : t.text.data.toList.length = n := by rw [hT, List.length_take, drop_len]; omega
    rw [List.singleton_append, joinX_cons] at hq0
    obtain ⟨g0, g1⟩ := lt_of_drop hq0
    obtain ⟨q, rfl⟩ : ∃ q, q = q0 + 1 := ⟨_, rfl⟩
    have hq' : S.data.toList.drop (q0 + 1) = t.text.data.toList ++ 32 :: 35 :: 120 :: 10 :: joinX r' := by rw [← List.drop_drop, hq0]; rfl
    rw [lex_blank g0 (by rw [g1]; decide)]
    generalize q0 + 1 = q at hq' ⊢
    have htk : (S.data.toList.drop q).take n = (s.data.toList.drop k).take n := by
      rw [hq', List.take_append_of_le_length (by omega), ← hTl, List.take_length, hT]
      congr 1
      rw [List.length_take, drop_len]
      omega
    have h4 : tokL (S.data.toList.drop q) = .ok (kd, n, v) := by
      refine tokL_congr (drop_ne hk) h3 htk (by rw [hq', List.length_append]; omega) ?_
      right; right; left
      rw [hq', List.getElem?_append_right (by omega), show n - t.text.data.toList.length = 0 by omega]
      rfl
    have hhd := head_congr hn1 htk
    have hbq : bat S q = bat s k := by rw [bat_drop0, hhd, ← bat_drop0]
    have hqs : q + n + 1 ≤ S.size := by
      have := congrArg List.length hq'
      rw [drop_len, List.length_append, List.length_cons] at this
      omega
    have hx : S.extract q (q + n) = t.text := by
      apply bytes_ext
      rw [extract_list, htk, hT]
    have htok : tokAt S q = .ok ⟨kd, t.text, v, q⟩ := by
      rw [tokL_eq, h4]
      show Except.ok _ = _
      rw [hx]
    have hnext := drop_more hq' hTl
    obtain ⟨h5, h6⟩ := lex_gapX hnext
    obtain ⟨ts', h7, h8⟩ := ih r' hr' S (q + n + 4) h6
    refine ⟨[⟨kd, t.text, v, q⟩] ++ ts', ?_, ?_⟩
    · rw [lex_tok (by omega) (by rw [hbq]; exact hb) (by rw [hbq]; exact hr) htok]
      simp only [hn]
      rw [h5, h7]
      rfl
    · have h9 : t.kind = kd ∧ t.num = v := by rw [ht3]; exact ⟨rfl, rfl⟩
      exact .cons ⟨h9.1, rfl, h9.2, trivial⟩ h8

/- What SyntaxBlanks asks of the two texts. -/
theorem parse_blanks {s S : ByteArray} {ts : List Tok} (h : lexAll s = .ok ts) (hS : S.data.toList = joinX ts) (hz : S.size ≤ 16384) :
    ∃ t t' p p' e, parseB s = (t, p, e) ∧ parseB S = (t', p', e) ∧ TR (fun _ _ => True) t t' := by
  obtain ⟨ts', h1, h2⟩ := lex_blanks 0 ts (lexAll_from h).1 S 0 hS
  have h3 : lexAll S = .ok ts' := by unfold lexAll; rw [if_neg (by omega)]; exact h1
  rw [parseB_ok h, parseB_ok h3]
  rcases parse_full h2 (lexAll_end h) with ⟨xs, xs', e1, e2, hv⟩ | ⟨p, p', e, e1, e2, _⟩ | ⟨e1, e2⟩
  · exact ⟨_, _, _, _, _, e1, e2, TR.mk trivial hv⟩
  · exact ⟨_, _, _, _, _, e1, e2, TR.mk trivial .nil⟩
  · exact ⟨_, _, _, _, _, e1, e2, TR.mk trivial .nil⟩

end Go.Proofs.YtflhniiemmahmaaDoor
