/- The fault that is told is the first one: the tokens ahead of its place, whatever stands behind them, are at fault there or later, or not at all. Nothing of the program is walked here. -/
import Derived.Test.YtflhniiemmahmaaDoorFull
namespace Go.Proofs.YtflhniiemmahmaaDoor
open Go.RowKit

theorem lex_ge {s : ByteArray} : ∀ j ts, j ≤ s.size → lexFrom s j = .ok ts → ∀ t ∈ ts, j ≤ t.place := by
  intro j
  apply lex_ind (s := s) (P := fun j r => ∀ ts, j ≤ s.size → r = .ok ts → ∀ t ∈ ts, j ≤ t.place)
  · intro k _ ts hk h t ht
    cases h
    obtain rfl : t = endTok s := by simpa using ht
    exact hk
  · intro k hk _ ih ts _ h t ht
    have := ih ts (by omega) h t ht
    omega
  · intro k hk hb ih ts _ h t ht
    have := ih ts (endOf_le _ _ _ (by omega)) h t ht
    have := remark_gt hk hb
    omega
  · intro k e _ _ _ _ ts _ h; cases h
  · intro k t hk _ _ ht ih ts _ h u hu
    obtain ⟨r', hr', rfl⟩ := more_ok h
    obtain ⟨kd, n, v, h3, ht3, hn, hn1, hn2⟩ := tok_three hk ht
    rcases List.mem_append.1 hu with hu | hu
    · obtain rfl : u = t := by simpa using hu
      have hp : u.place = k := by rw [ht3]
      omega
    · have := ih r' (by omega) hr' u hu
      omega

def headB (s : ByteArray) (p : Nat) (tail : ByteArray) : ByteArray := s.extract 0 p ++ ⟨#[32]⟩ ++ tail
theorem headB_list (s : ByteArray) (p : Nat) (tail : ByteArray) : (headB s p tail).data.toList = s.data.toList.take p ++ 32 :: tail.data.toList := by
  unfold headB
  rw [ByteArray.data_append, ByteArray.data_append]
  have := extract_list s 0 p
  rw [Nat.zero_add, List.drop_zero] at this
  simp
theorem headB_drop (s : ByteArray) (p : Nat) (tail : ByteArray) (j : Nat) (hp : p ≤ s.size) (hj : j ≤ p) : (headB s p tail).data.toList.drop j = (s.data.toList.drop j).take (p - j) ++ 32 :: tail.data.toList := by
  have h1 : s.data.toList.length = s.size := Array.length_toList
  rw [headB_list, List.drop_append_of_le_length (by rw [List.length_take]; omega), List.drop_take]
theorem headB_size (s : ByteArray) (p : Nat) (tail : ByteArray) (hp : p ≤ s.size) : (headB s p tail).size = p + 1 + tail.size := by
  have h : (headB s p tail).data.toList.length = (headB s p tail).size := Array.length_toList
  have h1 : s.data.toList.length = s.size := Array.length_toList
  have h2 : tail.data.toList.length = tail.size := Array.length_toList
  rw [← h, headB_list, List.length_append, List.length_cons, List.length_take]
  omega
theorem headB_bat (s : ByteArray) (p : Nat) (tail : ByteArray) (j : Nat) (hp : p ≤ s.size) (hj : j < p) : bat (headB s p tail) j = bat s j := by
  rw [bat_drop0, headB_drop s p tail j hp (by omega), bat_drop0 s j]
  have hl : 0 < ((s.data.toList.drop j).take (p - j)).length := by rw [List.length_take, drop_len]; omega
  rw [List.getD_eq_getElem?_getD, List.getD_eq_getElem?_getD, List.getElem?_append_left hl, List.getElem?_take, if_pos (by omega)]

theorem runLen_ge {p : Int → Bool} : ∀ (m : Nat) (l r : List UInt8), m ≤ runLen p l → m ≤ runLen p (l.take m ++ r)
  | 0, _, _, _ => Nat.zero_le _
  | m + 1, [], r, h => by simp [runLen] at h
  | m + 1, b :: l, r, h => by
    rw [runLen] at h
    cases hp : p (b.toNat : Int)
    · rw [hp] at h; simp at h
    · rw [hp, if_pos rfl] at h
      rw [List.take_succ_cons, List.cons_append, runLen, hp, if_pos rfl]
      have := runLen_ge (p := p) m l r (by omega)
      omega
theorem runLen_lt {p : Int → Bool} {l r : List UInt8} {m : Nat} (h : runLen p l < m) (hm : m ≤ l.length) : runLen p (l.take m ++ r) = runLen p l := by
  refine runLen_congr _ rfl ?_ ?_ ?_
  · rw [List.take_append_of_le_length (by rw [List.length_take]; omega), List.take_take, Nat.min_eq_left (by omega)]
  · rw [List.length_append, List.length_take]; omega
  · intro b hb
    rw [List.getElem?_append_left (by rw [List.length_take]; omega), List.getElem?_take, if_pos h] at hb
    exact runLen_stop hb

/- The tokens ahead of the place of a token stand so in every text that begins so and has a blank there. -/
theorem lex_head (s : ByteArray) (p : Nat) (tail : ByteArray) (hp : p ≤ s.size) : ∀ j ts, j ≤ p → lexFrom s j = .ok ts → (∃ t ∈ ts, t.place = p) → ∀ ts2, lexFrom (headB s p tail) j = .ok ts2 →
    ∃ c x x', ts = c ++ x ∧ ts2 = c ++ x' ∧ (∀ t ∈ c, t.place < p) ∧ ∀ t ∈ x', p ≤ t.place := by
  have hz := headB_size s p tail hp
  intro j
  apply lex_ind (s := s) (P := fun j r => ∀ ts, j ≤ p → r = .ok ts → (∃ t ∈ ts, t.place = p) → ∀ ts2, lexFrom (headB s p tail) j = .ok ts2 → ∃ c x x', ts = c ++ x ∧ ts2 = c ++ x' ∧ (∀ t ∈ c, t.place < p) ∧ ∀ t ∈ x', p ≤ t.place)
  · intro k hk ts hj h hm ts2 h2
    obtain rfl : k = p := by omega
    exact ⟨[], ts, ts2, rfl, rfl, by simp, lex_ge k ts2 (by omega) h2⟩
  · intro k hk hb ih ts hj h hm ts2 h2
    obtain ⟨t, ht, htp⟩ := hm
    have hge := lex_ge (k + 1) ts (by omega) h t ht
    have hkp : k < p := by omega
    rw [lex_blank (by omega) (by rw [headB_bat s p tail k hp hkp]; exact hb)] at h2
    exact ih ts (by omega) h ⟨t, ht, htp⟩ ts2 h2
  · intro k hk hb ih ts hj h hm ts2 h2
    obtain ⟨t, ht, htp⟩ := hm
    have hE := endOf_le isRI s k (by omega)
    have hge := lex_ge _ ts hE h t ht
    have hgt := remark_gt hk hb
    have hkp : k < p := by omega
    have hb2 : bat (headB s p tail) k = 35 := by rw [headB_bat s p tail k hp hkp]; exact hb
    rw [lex_remark (by omega) hb2] at h2
    have e1 : endOf isRI s k = k + runLen isRI (s.data.toList.drop k) := rfl
    have e2 : endOf isRI (headB s p tail) k = k + runLen isRI ((s.data.toList.drop k).take (p - k) ++ 32 :: tail.data.toList) := by unfold endOf; rw [headB_drop s p tail k hp (by omega)]
    by_cases hlt : endOf isRI s k < p
    · have e3 : endOf isRI (headB s p tail) k = endOf isRI s k := by rw [e2, runLen_lt (by omega) (by rw [drop_len]; omega)]; rfl
      rw [e3] at h2
      exact ih ts (by omega) h ⟨t, ht, htp⟩ ts2 h2
    · have e3 : p ≤ endOf isRI (headB s p tail) k := by
        have := runLen_ge (p := isRI) (p - k) (s.data.toList.drop k) (32 :: tail.data.toList) (by omega)
        rw [e2]; omega
      refine ⟨[], ts, ts2, rfl, rfl, by simp, fun u hu => ?_⟩
      have := lex_ge _ ts2 (endOf_le _ _ _ (by omega)) h2 u hu
      omega
  · intro k e _ _ _ _ ts _ h; cases h
  · intro k t hk hb hr ht ih ts hj h hm ts2 h2
    obtain ⟨r', hr', rfl⟩ := more_ok h
    obtain ⟨kd, n, v, h3, ht3, hn, hn1, hn2⟩ := tok_three hk ht
    have hpl : t.place = k := by rw [ht3]
    rcases Nat.lt_or_ge k p with hkp | hkp
    · obtain ⟨u, hu, hup⟩ := hm
      have hu' : u ∈ r' := by
        rcases List.mem_append.1 hu with hu | hu
        · obtain rfl : u = t := by simpa using hu
          omega
        · exact hu
      have hge := lex_ge _ r' (by omega) hr' u hu'
      rw [hn] at hge
      have hd := headB_drop s p tail k hp (by omega)
      have htk : ((headB s p tail).data.toList.drop k).take n = (s.data.toList.drop k).take n := by
        rw [hd, List.take_append_of_le_length (by rw [List.length_take, drop_len]; omega), List.take_take, Nat.min_eq_left (by omega)]
      have h4 : tokL ((headB s p tail).data.toList.drop k) = .ok (kd, n, v) := by
        refine tokL_congr (drop_ne hk) h3 htk (by rw [drop_len]; omega) ?_
        rcases Nat.lt_or_ge (k + n) p with hlt | hge2
        · right; left
          rw [hd, List.getElem?_append_left (by rw [List.length_take, drop_len]; omega), List.getElem?_take, if_pos (by omega)]
        · right; right; left
          have hl : ((s.data.toList.drop k).take (p - k)).length = n := by rw [List.length_take, drop_len]; omega
          rw [hd, List.getElem?_append_right (by omega), hl, Nat.sub_self]
          rfl
      have hx : (headB s p tail).extract k (k + n) = s.extract k (k + n) := by
        apply bytes_ext
        rw [extract_list, htk, extract_list]
      have htok : tokAt (headB s p tail) k = .ok t := by
        rw [tokL_eq, h4, ht3]
        show Except.ok _ = _
        rw [hx]
      rw [lex_tok (by omega) (by rw [headB_bat s p tail k hp hkp]; exact hb) (by rw [headB_bat s p tail k hp hkp]; exact hr) htok] at h2
      obtain ⟨r2, hr2, rfl⟩ := more_ok h2
      obtain ⟨c, x, x', hc1, hc2, hc3, hc4⟩ := ih r' (by omega) hr' ⟨u, hu', hup⟩ r2 hr2
      refine ⟨t :: c, x, x', by rw [hc1]; rfl, by rw [hc2]; rfl, fun y hy => ?_, hc4⟩
      rcases List.mem_cons.1 hy with rfl | hy
      · omega
      · exact hc3 y hy
    · obtain rfl : k = p := by omega
      exact ⟨[], _, ts2, rfl, rfl, by simp, lex_ge k ts2 (by omega) h2⟩

theorem Al.refl : ∀ c : List Tok, Al Eq c c
  | [] => .nil
  | _ :: c => .cons ⟨rfl, rfl, rfl, rfl⟩ (Al.refl c)

theorem parse_first {s tail : ByteArray} {t : T} {p : Nat} {e : Int} (h : parseB s = (t, p, e)) (he : e = 20 ∨ e = 21) (hp : p ≤ s.size) {ts2 : List Tok} (h2 : lexAll (headB s p tail) = .ok ts2) {t' : T} {p' : Nat} {e' : Int}
    (h' : parseB (headB s p tail) = (t', p', e')) : e' = 0 ∨ e' = 22 ∨ p ≤ p' := by
  cases hl : lexAll s with
  | error q =>
    obtain ⟨k, c⟩ := q
    rw [parseB_err hl] at h
    have hc : 10 ≤ c ∧ c ≤ 13 := by
      unfold lexAll at hl
      split at hl
      · cases hl; decide
      · have := tokAt_err (lex_fault 0 hl).2.2.2.2
        omega
    cases h
    omega
  | ok ts =>
    rw [parseB_ok hl] at h
    rw [parseB_ok h2] at h'
    unfold parseToks at h h'
    cases hu : unitP ts with
    | ok q =>
      obtain ⟨a, l⟩ := q
      rw [hu] at h
      simp only at h
      split at h <;> (cases h; omega)
    | error q =>
      obtain ⟨q1, q2⟩ := q
      rw [hu] at h
      cases h
      have hpast := unit_p ts
      rw [hu] at hpast
      obtain ⟨y, hy, hny⟩ := lexAll_end hl
      have hm : ∃ t ∈ ts, t.place = p := by
        rcases hpast with ⟨t, ht, hp⟩ | hall
        · exact ⟨t, ht, hp.1.symm⟩
        · exact absurd (hall y hy) hny
      obtain ⟨c, x, x', hc1, hc2, hc3, hc4⟩ := lex_head s p tail hp 0 ts (by omega) (lexAll_from hl).1 hm ts2 (lexAll_from h2).1
      have h1 := unitF_s (x := x) (x' := x') (ts.length + 1) (ts2.length + 1) (Al.refl c) (by rw [hc1]; exact Nat.le_refl _) (by rw [hc2]; exact Nat.le_refl _)
      rw [← hc1, ← hc2] at h1
      rcases h1 with ⟨a, a', d, k, d', k', e1, _⟩ | ⟨r, r', ee, e1, _, _, t, ht, hr⟩ | ⟨hcon, _, hpx, _⟩
      · unfold unitP at hu
        rw [bd_ok e1] at hu
        cases hu
      · unfold unitP at hu
        rw [bd_err e1] at hu
        cases hu
        have := hc3 t ht
        omega
      · cases hu2 : unitF (ts2.length + 1) ts2 with
        | ok q =>
          obtain ⟨b, l⟩ := q
          have : unitP ts2 = .ok (.mk 0 e0 0 0 b, l) := by unfold unitP; rw [bd_ok hu2]
          rw [this] at h'
          simp only at h'
          split at h' <;> (cases h'; omega)
        | error q =>
          obtain ⟨r1, r2⟩ := q
          have : unitP ts2 = .error (r1, r2) := by unfold unitP; rw [bd_err hu2]
          rw [this] at h'
          cases h'
          rw [hu2] at hpx
          obtain ⟨z, hz, hnz⟩ := lexAll_end h2
          rcases hpx with ⟨t, ht, hr⟩ | hall
          · have := hc4 t ht
            have hr' : p' = t.place := hr.1
            omega
          · rw [hc2] at hz
            rcases List.mem_append.1 hz with hz | hz
            · exact absurd (hcon z hz) hnz
            · exact absurd (hall z hz) hnz

end Go.Proofs.YtflhniiemmahmaaDoor
