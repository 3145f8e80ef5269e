/- The fault that is told is the first one: the tokens ahead of its place, whatever stands behind them, are at fault there or later, or not at all. Nothing of the program is walked here. Two texts that are read, one behind the other, are read as the declarations of both. Nothing of the program is walked here. The row of a slice of trees. Nothing of the program is walked here. -/
import Derived.Test.YtdkdidgeaalcgaaDoorP21
import Derived.Test.YtdkdidgeaalcgaaDoorP18
namespace Go.Proofs.YtdkdidgeaalcgaaDoor
section
open Go.RowKit

theorem lex_ge {s : ByteArray} : ∀ j ts, j ≤ s.size → lexFrom s j = .ok ts → ∀ t ∈ ts, j ≤ t.place := by
  intro j
  apply lex_ind (s := s) (P := fun j r => ∀ ts, j ≤ s.size → r = .ok ts → ∀ t ∈ ts, j ≤ t.place)
  · intro k _ ts hk h t ht
    cases h
    obtain rfl : t = endTok s := by simpa using ht
    exact hk
  · intro k hk _ ih ts _ h t ht
    have := ih ts (by omega) h t ht
    omega
  · intro k hk hb ih ts _ h t ht
    have := ih ts (endOf_le _ _ _ (by omega)) h t ht
    have := remark_gt hk hb
    omega
  · intro k e _ _ _ _ ts _ h; cases h
  · intro k t hk _ _ ht ih ts _ h u hu
    obtain ⟨r', hr', rfl⟩ := more_ok h
    obtain ⟨kd, n, v, h3, ht3, hn, hn1, hn2⟩ := tok_three hk ht
    rcases List.mem_append.1 hu with hu | hu
    · obtain rfl : u = t := by simpa using hu
      have hp : u.place = k := by rw [ht3]
      omega
    · have := ih r' (by omega) hr' u hu
      omega

def headB (s : ByteArray) (p : Nat) (tail : ByteArray) : ByteArray := s.extract 0 p ++ ⟨#[32]⟩ ++ tail
theorem headB_list (s : ByteArray) (p : Nat) (tail : ByteArray) : (headB s p tail).data.toList = s.data.toList.take p ++ 32 :: tail.data.toList := by
  unfold headB
  rw [ByteArray.data_append, ByteArray.data_append]
  have := extract_list s 0 p
  rw [Nat.zero_add, List.drop_zero] at this
  simp
theorem headB_drop (s : ByteArray) (p : Nat) (tail : ByteArray) (j : Nat) (hp : p ≤ s.size) (hj : j ≤ p) : (headB s p tail).data.toList.drop j = (s.data.toList.drop j).take (p - j) ++ 32 :: tail.data.toList := by
  have h1 : s.data.toList.length = s.size := Array.length_toList
  rw [headB_list, List.drop_append_of_le_length (by rw [List.length_take]; omega), List.drop_take]
theorem headB_size (s : ByteArray) (p : Nat) (tail : ByteArray) (hp : p ≤ s.size) : (headB s p tail).size = p + 1 + tail.size := by
  have h : (headB s p tail).data.toList.length = (headB s p tail).size := Array.length_toList
  have h1 : s.data.toList.length = s.size := Array.length_toList
  have h2 : tail.data.toList.length = tail.size := Array.length_toList
  rw [← h, headB_list, List.length_append, List.length_cons, List.length_take]
  omega
theorem headB_bat (s : ByteArray) (p : Nat) (tail : ByteArray) (j : Nat) (hp : p ≤ s.size) (hj : j < p) : bat (headB s p tail) j = bat s j := by
  rw [bat_drop0, headB_drop s p tail j hp (by omega), bat_drop0 s j]
  have hl : 0 < ((s.data.toList.drop j).take (p - j)).length := by rw [List.length_take, drop_len]; omega
  rw [List.getD_eq_getElem?_getD, List.getD_eq_getElem?_getD, List.getElem?_append_left hl, List.getElem?_take, if_pos (by omega)]

theorem runLen_ge {p : Int → Bool} : ∀ (m : Nat) (l r : List UInt8), m ≤ runLen p l → m ≤ runLen p (l.take m ++ r)
  | 0, _, _, _ => Nat.zero_le _
  | m + 1, [], r, h => by simp [runLen] at h
  | m + 1, b :: l, r, h => by
    rw [runLen] at h
    cases hp : p (b.toNat : Int)
    · rw [hp] at h; simp at h
    · rw [hp, if_pos rfl] at h
      rw [List.take_succ_cons, List.cons_append, runLen, hp, if_pos rfl]
      have := runLen_ge (p := p) m l r (by omega)
      omega
theorem runLen_lt {p : Int → Bool} {l r : List UInt8} {m : Nat} (h : runLen p l < m) (hm : m ≤ l.length) : runLen p (l.take m ++ r) = runLen p l := by
  refine runLen_congr _ rfl ?_ ?_ ?_
  · rw [List.take_append_of_le_length (by rw [List.length_take]; omega), List.take_take, Nat.min_eq_left (by omega)]
  · rw [List.length_append, List.length_take]; omega
  · intro b hb
    rw [List.getElem?_append_left (by rw [List.length_take]; omega), List.getElem?_take, if_pos h] at hb
    exact runLen_stop hb

/- The tokens ahead of the place of a token stand so in every text that begins so and has a blank there. -/
theorem lex_head (s : ByteArray) (p : Nat) (tail : ByteArray) (hp : p ≤ s.size) : ∀ j ts, j ≤ p → lexFrom s j = .ok ts → (∃ t ∈ ts, t.place = p) → ∀ ts2, lexFrom (headB s p tail) j = .ok ts2 →
    ∃ c x x', ts = c ++ x ∧ ts2 = c ++ x' ∧ (∀ t ∈ c, t.place < p) ∧ ∀ t ∈ x', p ≤ t.place := by
  have hz := headB_size s p tail hp
  intro j
  apply lex_ind (s := s) (P := fun j r => ∀ ts, j ≤ p → r = .ok ts → (∃ t ∈ ts, t.place = p) → ∀ ts2, lexFrom (headB s p tail) j = .ok ts2 → ∃ c x x', ts = c ++ x ∧ ts2 = c ++ x' ∧ (∀ t ∈ c, t.place < p) ∧ ∀ t ∈ x', p ≤ t.place)
  · intro k hk ts hj h hm ts2 h2
    obtain rfl : k = p := by omega
    exact ⟨[], ts, ts2, rfl, rfl, by simp, lex_ge k ts2 (by omega) h2⟩
  · intro k hk hb ih ts hj h hm ts2 h2
    obtain ⟨t, ht, htp⟩ := hm
    have hge := lex_ge (k + 1) ts (by omega) h t ht
    have hkp : k < p := by omega
    rw [lex_blank (by omega) (by rw [headB_bat s p tail k hp hkp]; exact hb)] at h2
    exact ih ts (by omega) h ⟨t, ht, htp⟩ ts2 h2
  · intro k hk hb ih ts hj h hm ts2 h2
    obtain ⟨t, ht, htp⟩ := hm
    have hE := endOf_le isRI s k (by omega)
    have hge := lex_ge _ ts hE h t ht
    have hgt := remark_gt hk hb
    have hkp : k < p := by omega
    have hb2 : bat (headB s p tail) k = 35 := by rw [headB_bat s p tail k hp hkp]; exact hb
    rw [lex_remark (by omega) hb2] at h2
    have e1 : endOf isRI s k = k + runLen isRI (s.data.toList.drop k) := rfl
    have e2 : endOf isRI (headB s p tail) k = k + runLen isRI ((s.data.toList.drop k).take (p - k) ++ 32 :: tail.data.toList) := by unfold endOf; rw [headB_drop s p tail k hp (by omega)]
    by_cases hlt : endOf isRI s k < p
    · have e3 : endOf isRI (headB s p tail) k = endOf isRI s k := by rw [e2, runLen_lt (by omega) (by rw [drop_len]; omega)]; rfl
      rw [e3] at h2
      exact ih ts (by omega) h ⟨t, ht, htp⟩ ts2 h2
    · have e3 : p ≤ endOf isRI (headB s p tail) k := by
        have := runLen_ge (p := isRI) (p - k) (s.data.toList.drop k) (32 :: tail.data.toList) (by omega)
        rw [e2]; omega
      refine ⟨[], ts, ts2, rfl, rfl, by simp, fun u hu => ?_⟩
      have := lex_ge _ ts2 (endOf_le _ _ _ (by omega)) h2 u hu
      omega
  · intro k e _ _ _ _ ts _ h; cases h
  · intro k t hk hb hr ht ih ts hj h hm ts2 h2
    obtain ⟨r', hr', rfl⟩ := more_ok h
    obtain ⟨kd, n, v, h3, ht3, hn, hn1, hn2⟩ := tok_three hk ht
    have hpl : t.place = k := by rw [ht3]
    rcases Nat.lt_or_ge k p with hkp | hkp
    · obtain ⟨u, hu, hup⟩ := hm
      have hu' : u ∈ r' := by
        rcases List.mem_append.1 hu with hu | hu
        · obtain rfl : u = t := by simpa using hu
          omega
        · exact hu
      have hge := lex_ge _ r' (by omega) hr' u hu'
      rw [hn] at hge
      have hd := headB_drop s p tail k hp (by omega)
      have htk : ((headB s p tail).data.toList.drop k).take n = (s.data.toList.drop k).take n := by
        rw [hd, List.take_append_of_le_length (by rw [List.length_take, drop_len]; omega), List.take_take, Nat.min_eq_left (by omega)]
      have h4 : tokL ((headB s p tail).data.toList.drop k) = .ok (kd, n, v) := by
        refine tokL_congr (drop_ne hk) h3 htk (by rw [drop_len]; omega) ?_
        rcases Nat.lt_or_ge (k + n) p with hlt | hge2
        · right; left
          rw [hd, List.getElem?_append_left (by rw [List.length_take, drop_len]; omega), List.getElem?_take, if_pos (by omega)]
        · right; right; left
          have hl : ((s.data.toList.drop k).take (p - k)).length = n := by rw [List.length_take, drop_len]; omega
          rw [hd, List.getElem?_append_right (by omega), hl, Nat.sub_self]
          rfl
      have hx : (headB s p tail).extract k (k + n) = s.extract k (k + n) := by
        apply bytes_ext
        rw [extract_list, htk, extract_list]
      have htok : tokAt (headB s p tail) k = .ok t := by
        rw [tokL_eq, h4, ht3]
        show Except.ok _ = _
        rw [hx]
      rw [lex_tok (by omega) (by rw [headB_bat s p tail k hp hkp]; exact hb) (by rw [headB_bat s p tail k hp hkp]; exact hr) htok] at h2
      obtain ⟨r2, hr2, rfl⟩ := more_ok h2
      obtain ⟨c, x, x', hc1, hc2, hc3, hc4⟩ := ih r' (by omega) hr' ⟨u, hu', hup⟩ r2 hr2
      refine ⟨t :: c, x, x', by rw [hc1]; rfl, by rw [hc2]; rfl, fun y hy => ?_, hc4⟩
      rcases List.mem_cons.1 hy with rfl | hy
      · omega
      · exact hc3 y hy
    · obtain rfl : k = p := by omega
      exact ⟨[], _, ts2, rfl, rfl, by simp, lex_ge k ts2 (by omega) h2⟩

theorem Al.refl : ∀ c : List Tok, Al Eq c c
  | [] => .nil
  | _ :: c => .cons ⟨rfl, rfl, rfl, rfl⟩ (Al.refl c)

theorem parse_first {s tail : ByteArray} {t : T} {p : Nat} {e : Int} (h : parseB s = (t, p, e)) (he : e = 20 ∨ e = 21) (hp : p ≤ s.size) {ts2 : List Tok} (h2 : lexAll (headB s p tail) = .ok ts2) {t' : T} {p' : Nat} {e' : Int}
    (h' : parseB (headB s p tail) = (t', p', e')) : e' = 0 ∨ e' = 22 ∨ p ≤ p' := by
  cases hl : lexAll s with
  | error q =>
    obtain ⟨k, c⟩ := q
    rw [parseB_err hl] at h
    have hc : 10 ≤ c ∧ c ≤ 13 := by
      unfold lexAll at hl
      split at hl
      · cases hl; decide
      · have := tokAt_err (lex_fault 0 hl).2.2.2.2
        omega
    cases h
    omega
  | ok ts =>
    rw [parseB_ok hl] at h
    rw [parseB_ok h2] at h'
    unfold parseToks at h h'
    cases hu : unitP ts with
    | ok q =>
      obtain ⟨a, l⟩ := q
      rw [hu] at h
      simp only at h
      split at h <;> (cases h; omega)
    | error q =>
      obtain ⟨q1, q2⟩ := q
      rw [hu] at h
      cases h
      have hpast := unit_p ts
      rw [hu] at hpast
      obtain ⟨y, hy, hny⟩ := lexAll_end hl
      have hm : ∃ t ∈ ts, t.place = p := by
        rcases hpast with ⟨t, ht, hp⟩ | hall
        · exact ⟨t, ht, hp.1.symm⟩
        · exact absurd (hall y hy) hny
      obtain ⟨c, x, x', hc1, hc2, hc3, hc4⟩ := lex_head s p tail hp 0 ts (by omega) (lexAll_from hl).1 hm ts2 (lexAll_from h2).1
      have h1 := unitF_s (x := x) (x' := x') (ts.length + 1) (ts2.length + 1) (Al.refl c) (by rw [hc1]; exact Nat.le_refl _) (by rw [hc2]; exact Nat.le_refl _)
      rw [← hc1, ← hc2] at h1
      rcases h1 with ⟨a, a', d, k, d', k', e1, _⟩ | ⟨r, r', ee, e1, _, _, t, ht, hr⟩ | ⟨hcon, _, hpx, _⟩
      · unfold unitP at hu
        rw [bd_ok e1] at hu
        cases hu
      · unfold unitP at hu
        rw [bd_err e1] at hu
        cases hu
        have := hc3 t ht
        omega
      · cases hu2 : unitF (ts2.length + 1) ts2 with
        | ok q =>
          obtain ⟨b, l⟩ := q
          have : unitP ts2 = .ok (.mk 0 e0 0 0 b, l) := by unfold unitP; rw [bd_ok hu2]
          rw [this] at h'
          simp only at h'
          split at h' <;> (cases h'; omega)
        | error q =>
          obtain ⟨r1, r2⟩ := q
          have : unitP ts2 = .error (r1, r2) := by unfold unitP; rw [bd_err hu2]
          rw [this] at h'
          cases h'
          rw [hu2] at hpx
          obtain ⟨z, hz, hnz⟩ := lexAll_end h2
          rcases hpx with ⟨t, ht, hr⟩ | hall
          · have := hc4 t ht
            have hr' : p' = t.place := hr.1
            omega
          · rw [hc2] at hz
            rcases List.mem_append.1 hz with hz | hz
            · exact absurd (hcon z hz) hnz
            · exact absurd (hall z hz) hnz
end

section
open Go.RowKit

theorem Al.true : ∀ c : List Tok, Al (fun _ _ => True) c c
  | [] => .nil
  | _ :: c => .cons ⟨rfl, rfl, rfl, trivial⟩ (Al.true c)
theorem Al.trueShift (n : Nat) : ∀ c : List Tok, Al (fun _ _ => True) c (c.map (shiftTok n))
  | [] => .nil
  | _ :: c => .cons ⟨rfl, rfl, rfl, trivial⟩ (Al.trueShift n c)

mutual
theorem TR.refl1 : ∀ t : T, TR (fun _ _ => True) t t
  | .mk _ _ _ _ ks => TR.mk trivial (TsR.refl1 ks)
theorem TsR.refl1 : ∀ ts : List T, TsR (fun _ _ => True) ts ts
  | [] => .nil
  | t :: ts => .cons (TR.refl1 t) (TsR.refl1 ts)
end
mutual
theorem TR.trans1 : ∀ {t u v : T}, TR (fun _ _ => True) t u → TR (fun _ _ => True) u v → TR (fun _ _ => True) t v
  | .mk _ _ _ _ ks, u, v, h, h' => by
    have hk : TsR (fun _ _ => True) ks v.kids := TsR.trans1 (show TsR _ ks u.kids from h.kids) h'.kids
    exact TR.of (h.kind.trans h'.kind) (h.text.trans h'.text) (h.num.trans h'.num) trivial hk
theorem TsR.trans1 : ∀ {ts us vs : List T}, TsR (fun _ _ => True) ts us → TsR (fun _ _ => True) us vs → TsR (fun _ _ => True) ts vs
  | [], us, vs, h, h' => by unfold TsR at h; subst h; exact h'
  | t :: ts, us, vs, h, h' => by
    unfold TsR at h
    obtain ⟨u, us', rfl, h1, h2⟩ := h
    unfold TsR at h'
    obtain ⟨v, vs', rfl, h3, h4⟩ := h'
    exact .cons (TR.trans1 h1 h3) (TsR.trans1 h2 h4)
end
theorem tok_kind0 {l : List UInt8} {kd n v : Nat} (h : tokL l = .ok (kd, n, v)) : kd ≠ 0 := by
  unfold tokL at h
  split at h
  · unfold wordL at h
    split at h
    · cases h
    · split at h <;> (cases h; decide)
  · split at h
    · unfold numL at h
      split at h
      · cases h
      · cases h; decide
    · unfold signL at h
      split at h
      · cases h; decide
      · split at h <;> cases h
        decide
theorem parse_unit {s : ByteArray} {xs : List T} {p : Nat} (h : parseB s = (.mk 0 e0 0 0 xs, p, 0)) : ∃ ts, lexAll s = .ok ts ∧ ∃ k, unitF (ts.length + 1) ts = .ok (xs, k) := by
  cases hl : lexAll s with
  | error q =>
    obtain ⟨k, c⟩ := q
    rw [parseB_err hl] at h
    exfalso
    have hc : 10 ≤ c ∧ c ≤ 13 := by
      unfold lexAll at hl
      split at hl
      · cases hl; decide
      · have := tokAt_err (lex_fault 0 hl).2.2.2.2
        omega
    simp only [Prod.mk.injEq] at h
    omega
  | ok ts =>
    refine ⟨ts, rfl, ?_⟩
    rw [parseB_ok hl] at h
    unfold parseToks unitP at h
    cases hu : unitF (ts.length + 1) ts with
    | error q =>
      obtain ⟨q1, q2⟩ := q
      rw [bd_err hu] at h
      exfalso
      simp only [Prod.mk.injEq] at h
      have hn := unitF_p _ ts (Nat.le_refl _)
      rw [hu] at hn
      obtain ⟨y, hy, hny⟩ := lexAll_end hl
      rcases hn with ⟨t, _, _, hne⟩ | hall
      · exact hne h.2.2
      · exact hny (hall y hy)
    | ok q =>
      obtain ⟨ys, k⟩ := q
      rw [bd_ok hu] at h
      simp only at h
      split at h
      · simp at h
      · simp only [Prod.mk.injEq, T.mk.injEq, true_and, and_true] at h
        exact ⟨k, by rw [h.1]⟩

/- The declarations of a list are the same with others behind them. -/
theorem unitF_more2 {x : List Tok} {e : Tok} (he : ¬ Con e) (hk : e.kind = 0) (hx : ∃ t ∈ x, ¬ Con t) : ∀ (n : Nat) {c : List Tok} {xs : List T} {k : List Tok}, (∀ t ∈ c, t.kind ≠ 0) → unitF n (c ++ [e]) = .ok (xs, k) → ∀ {ys : List T} {k2 : List Tok} (m : Nat), unitF m x = .ok (ys, k2) → x.length + 1 ≤ m →
    ∀ n2, (c ++ x).length + 1 ≤ n2 → ∃ zs k3, unitF n2 (c ++ x) = .ok (zs, k3) ∧ TsR (fun _ _ => True) (xs ++ ys) zs := by
  intro n
  induction n with
  | zero => intro c xs k _ h; cases h
  | succ n ih =>
    intro c xs k hc h ys k2 m hm hxm n2 hn2
    cases c with
    | nil =>
      have h1 : unitF (n + 1) ([] ++ [e]) = .ok ([], [e]) := by
        rw [unitF]
        show (bif e.kind == 0 then _ else _) = _
        rw [hk]
        rfl
      rw [h1] at h
      cases h
      have h2 := unitF_s (ρ := fun _ _ => True) (x := []) (x' := []) m n2 (Al.true x) (by simpa using hxm) (by simpa using hn2)
      rw [List.append_nil] at h2
      rw [List.nil_append] at hn2 ⊢
      rcases h2 with ⟨a, a', d, q, d', q', e1, e2, hv, _⟩ | ⟨p, p', ee, e1, _⟩ | ⟨hcon, _⟩
      · rw [hm] at e1
        cases e1
        exact ⟨a', _, e2, hv⟩
      · rw [hm] at e1; cases e1
      · obtain ⟨t, ht, hn⟩ := hx
        exact absurd (hcon t ht) hn
    | cons t c1 =>
      have ht0 : (t.kind == 0) = false := beq_eq_false_iff_ne.2 (hc t (by simp))
      rw [unitF] at h
      have h' : bd (declP (t :: c1 ++ [e])) (fun a l1 => bd (unitF n l1) fun xs l2 => .ok (a :: xs, l2)) = .ok (xs, k) := by
        have e1 : ((hdT (t :: c1 ++ [e])).kind == 0) = false := ht0
        rw [e1] at h
        exact h
      obtain ⟨n3, rfl⟩ : ∃ n3, n2 = n3 + 1 := ⟨n2 - 1, by omega⟩
      have hs := decl_s (ρ := fun _ _ => True) (x := [e]) (x' := x) (Al.true (t :: c1))
      rcases hs with ⟨a, a', d, q, d', q', e1, e2, hv, hd, hd', hal, hcon⟩ | ⟨p, p', ee, e1, _⟩ | ⟨_, _, _, hcl⟩
      · rw [bd_ok e1] at h'
        cases hu : unitF n (q ++ [e]) with
        | error er => rw [bd_err hu] at h'; cases h'
        | ok r =>
          obtain ⟨xs1, k1⟩ := r
          rw [bd_ok hu] at h'
          cases h'
          have hq : ∀ t ∈ q, t.kind ≠ 0 := fun u hu => hc u (by rw [hd]; exact List.mem_append_right _ hu)
          have hqq : q = q' := by
            have h4 : d.length = d'.length := by
              have h5 := Al.length hal
              have h6 := congrArg List.length hd
              have h7 := congrArg List.length hd'
              rw [List.length_append] at h6 h7
              omega
            exact (List.append_inj (hd.symm.trans hd') h4).2
          subst hqq
          have hlen : (q ++ x).length + 1 ≤ n3 := by
            have h5 := sz_sh (decl_sz _) _ _ e2
            unfold Sh at h5
            omega
          obtain ⟨zs, k3, hz, hr⟩ := ih hq hu m hm hxm n3 hlen
          refine ⟨a' :: zs, k3, ?_, ?_⟩
          · rw [unitF]
            have e3 : ((hdT (t :: c1 ++ x)).kind == 0) = false := ht0
            rw [e3]
            show bd (declP (t :: c1 ++ x)) _ = _
            rw [bd_ok e2, bd_ok hz]
          · exact TsR.cons hv hr
      · rw [bd_err e1] at h'; cases h'
      · obtain ⟨er, her⟩ := hcl rfl (fun u hu => by obtain rfl : u = e := List.mem_singleton.1 hu; exact he)
        rw [bd_err her] at h'
        cases h'

theorem lex_kinds {s : ByteArray} : ∀ j ts, lexFrom s j = .ok ts → ∃ c, ts = c ++ [endTok s] ∧ ∀ t ∈ c, t.kind ≠ 0 := by
  intro j
  apply lex_ind (s := s) (P := fun _ r => ∀ ts, r = .ok ts → ∃ c, ts = c ++ [endTok s] ∧ ∀ t ∈ c, t.kind ≠ 0)
  · intro k _ ts h; cases h; exact ⟨[], rfl, by simp⟩
  · intro k _ _ ih; exact ih
  · intro k _ _ ih; exact ih
  · intro k e _ _ _ _ ts h; cases h
  · intro k t hk _ _ ht ih ts h
    obtain ⟨r', hr', rfl⟩ := more_ok h
    obtain ⟨c, hc, hk0⟩ := ih r' hr'
    obtain ⟨kd, n, v, h3, ht3, hn, hn1, hn2⟩ := tok_three hk ht
    refine ⟨t :: c, by rw [hc]; rfl, fun u hu => ?_⟩
    rcases List.mem_cons.1 hu with rfl | hu
    · rw [ht3]
      exact tok_kind0 h3
    · exact hk0 u hu

/- What the law asks of the three trees. -/
theorem parse_joined {a b : ByteArray} {xs ys : List T} {p q : Nat} (ha : parseB a = (.mk 0 e0 0 0 xs, p, 0)) (hb : parseB b = (.mk 0 e0 0 0 ys, q, 0)) (hs : a.size + b.size + 1 ≤ 16384) (hz : (T.mk 0 e0 0 0 xs).size + (T.mk 0 e0 0 0 ys).size ≤ 4097) :
    ∃ zs r, parseB (joinB a b) = (.mk 0 e0 0 0 zs, r, 0) ∧ TsR (fun _ _ => True) (xs ++ ys) zs := by
  obtain ⟨ta, hla, ka, hua⟩ := parse_unit ha
  obtain ⟨tb, hlb, kb, hub⟩ := parse_unit hb
  have hj := lex_join hla hlb hs
  obtain ⟨c, hc, hk0⟩ := lex_kinds 0 ta (lexAll_from hla).1
  have hsh := unitF_s (ρ := fun _ _ => True) (x := []) (x' := []) (tb.length + 1) ((tb.map (shiftTok (a.size + 1))).length + 1) (Al.trueShift (a.size + 1) tb) (by simp) (by simp)
  rw [List.append_nil, List.append_nil] at hsh
  obtain ⟨t0, ht0, hn0⟩ := lexAll_end hlb
  rcases hsh with ⟨y1, y2, d, k, d', k', e1, e2, hv, _⟩ | ⟨p1, p2, ee, e1, _⟩ | ⟨hcon, _⟩
  · rw [hub] at e1
    cases e1
    have hx : ∃ t ∈ tb.map (shiftTok (a.size + 1)), ¬ Con t := ⟨shiftTok (a.size + 1) t0, List.mem_map_of_mem ht0, hn0⟩
    have hua' : unitF (ta.length + 1) (c ++ [endTok a]) = .ok (xs, ka) := by rw [← hc]; exact hua
    have hdl : ta.dropLast = c := by rw [hc]; simp
    obtain ⟨zs, k3, hz1, hz2⟩ := unitF_more2 (end_nc a) rfl hx (ta.length + 1) hk0 hua' ((tb.map (shiftTok (a.size + 1))).length + 1) e2 (Nat.le_refl _) ((c ++ tb.map (shiftTok (a.size + 1))).length + 1) (Nat.le_refl _)
    have hr : TsR (fun _ _ => True) (xs ++ ys) zs := TsR.trans1 (TsR.append (TsR.refl1 xs) hv) hz2
    refine ⟨zs, 0, ?_, hr⟩
    rw [parseB_ok hj, hdl]
    unfold parseToks
    have hu3 : unitP (c ++ tb.map (shiftTok (a.size + 1))) = .ok (.mk 0 e0 0 0 zs, k3) := by unfold unitP; rw [bd_ok hz1]
    rw [hu3]
    have hsz : sizes zs = sizes xs + sizes ys := by rw [← TsR.sizes hr, sizes_append]
    rw [size_mk, size_mk] at hz
    show (if 4096 < (T.mk 0 e0 0 0 zs).size then _ else _) = _
    rw [if_neg (by rw [size_mk]; omega)]
  · rw [hub] at e1; cases e1
  · exact absurd (hcon t0 ht0) hn0
end

section
open Go.RowKit

/- The row of a slice of trees, with the value that stands for each one's kids. -/
theorem KAt.some1 {e : TypeId} {w : World} {ks : List T} {S : Nat → Prop} {v : Value} (h : KAt e w ks S v) {k : Nat} {t : T} (hk : ks[k]? = some t) : ∃ g cap, v = .slice (some ⟨g, 0, none⟩) ks.length cap ∧ g < w.heap.size ∧ ks.length ≤ cap ∧ cap ≤ maxLen ∧
    ∀ k t, ks[k]? = some t → ∃ u, w.rangeAt g (k * 5) (nodeCells t u) ∧ TAt e w t S u := by
  rcases h.form with ⟨_, rfl⟩ | h
  · simp at hk
  · exact h
end

end Go.Proofs.YtdkdidgeaalcgaaDoor
