/- Plain facts on what stands between tokens: blanks and remarks alone. Nothing of the program is walked here. -/
import Derived.Test.YtafhpckhjncecaaDoorJoin
namespace Go.Proofs.YtafhpckhjncecaaDoor
open Go.RowKit

/- Within a remark, behind a byte? -/
def gapStep (r : Bool) (b : UInt8) : Bool := b == 35 || (r && b != 10)

def gapRun : Bool → List UInt8 → Option Bool
  | r, [] => some r
  | r, b :: l => if (gapStep r b || b == 32 || b == 10) = true then gapRun (gapStep r b) l else none

theorem gapRun_append (l m : List UInt8) : ∀ r, gapRun r (l ++ m) = (gapRun r l).bind fun r' => gapRun r' m := by
  induction l with
  | nil => intro r; rfl
  | cons b l ih =>
    intro r
    simp only [List.cons_append, gapRun]
    split
    · exact ih _
    · rfl

theorem gapRun_remark : ∀ (l : List UInt8), (∀ b ∈ l, b ≠ 10) → gapRun true l = some true
  | [], _ => rfl
  | b :: l, h => by
    have hb : gapStep true b = true := by
      have : (b != 10) = true := by simpa using h b (by simp)
      unfold gapStep
      rw [this]
      simp
    rw [gapRun, hb]
    simp only [Bool.true_or, if_true]
    exact gapRun_remark l (fun c hc => h c (by simp [hc]))

/- The bytes from place a up to place j. -/
def gap (s : ByteArray) (a j : Nat) : List UInt8 := (s.data.toList.drop a).take (j - a)

theorem gap_same (s : ByteArray) (a : Nat) : gap s a a = [] := by unfold gap; simp

theorem gap_more (s : ByteArray) (a j e : Nat) (h1 : a ≤ j) (h2 : j ≤ e) : gap s a e = gap s a j ++ gap s j e := by
  unfold gap
  have e1 : s.data.toList.drop j = (s.data.toList.drop a).drop (j - a) := by rw [List.drop_drop]; congr 1; omega
  rw [e1, show e - a = (j - a) + (e - j) by omega, List.take_add]

theorem gap_one (s : ByteArray) (j : Nat) (h : j < s.size) : gap s j (j + 1) = [bat s j] := by
  unfold gap
  rw [drop_at s j h, show j + 1 - j = 1 by omega, bat_eq s j h]
  rfl

def Fits (s : ByteArray) (a j : Nat) : Prop := ∃ r, gapRun false (gap s a j) = some r ∧ (r = true → s.size ≤ j ∨ bat s j = 10)

def Cov (s : ByteArray) : Nat → List Tok → Prop
  | _, [] => False
  | a, t :: r => a ≤ t.place ∧ t.place + t.text.size ≤ s.size ∧ s.extract t.place (t.place + t.text.size) = t.text ∧ (t.kind = 0 ↔ r = []) ∧ (gapRun false (gap s a t.place)).isSome = true ∧
      (r = [] → t.place + t.text.size = s.size) ∧ (r ≠ [] → Cov s (t.place + t.text.size) r)

theorem runLen_mem {p : Int → Bool} : ∀ (l : List UInt8), ∀ b ∈ l.take (runLen p l), p (b.toNat : Int) = true
  | [], b, h => by simp at h
  | c :: l, b, h => by
    cases hp : p (c.toNat : Int)
    · rw [runLen, hp] at h
      simp at h
    · rw [runLen, hp, if_pos rfl, List.take_succ_cons] at h
      rcases List.mem_cons.1 h with rfl | h
      · exact hp
      · exact runLen_mem l b h

theorem tokL_kind {l : List UInt8} {kd n v : Nat} (h : tokL l = .ok (kd, n, v)) : kd ≠ 0 := by
  unfold tokL at h
  split at h
  · unfold wordL at h
    split at h
    · cases h
    · split at h <;> (cases h; decide)
  · split at h
    · unfold numL at h
      split at h
      · cases h
      · cases h; decide
    · unfold signL at h
      split at h
      · cases h; decide
      · split at h <;> cases h
        decide

theorem lex_covers {s : ByteArray} : ∀ j ts, lexFrom s j = .ok ts → ∀ a, a ≤ j → j ≤ s.size → Fits s a j → Cov s a ts := by
  intro j
  apply lex_ind (s := s) (P := fun j r => ∀ ts, r = .ok ts → ∀ a, a ≤ j → j ≤ s.size → Fits s a j → Cov s a ts)
  · intro k hk ts h a ha hks hf
    obtain rfl : k = s.size := by omega
    cases h
    obtain ⟨r, hr, _⟩ := hf
    refine ⟨ha, Nat.le_refl _, ?_, ⟨fun _ => rfl, fun _ => rfl⟩, ?_, fun _ => rfl, fun h => absurd rfl h⟩
    · apply bytes_ext
      show (s.extract s.size (s.size + 0)).data.toList = _
      rw [extract_list]
      simp [endTok]
    · show (gapRun false (gap s a s.size)).isSome = true
      rw [hr]; rfl
  · intro k hk hb ih ts h a ha hks hf
    refine ih ts h a (by omega) (by omega) ?_
    obtain ⟨r, hr, hr2⟩ := hf
    refine ⟨false, ?_, fun h => by cases h⟩
    rw [gap_more s a k (k + 1) ha (by omega), gapRun_append, hr, gap_one s k hk]
    show gapRun r [bat s k] = some false
    have hb' : bat s k = 32 ∨ bat s k = 10 := by unfold isBlank at hb; simpa using hb
    cases r with
    | false => rcases hb' with h | h <;> rw [h] <;> rfl
    | true =>
      rcases hr2 rfl with h | h
      · omega
      · rw [h]; rfl
  · intro k hk hb ih ts h a ha hks hf
    have hg := remark_gt hk hb
    have hle := endOf_le isRI s k (by omega)
    refine ih ts h a (by omega) hle ?_
    obtain ⟨r, hr, _⟩ := hf
    refine ⟨true, ?_, fun _ => ?_⟩
    · rw [gap_more s a k _ ha (by omega), gapRun_append, hr]
      show gapRun r (gap s k (endOf isRI s k)) = some true
      rw [gap_more s k (k + 1) _ (by omega) hg, gap_one s k hk, hb]
      show gapRun r (35 :: gap s (k + 1) (endOf isRI s k)) = some true
      have h35 : gapStep r 35 = true := by cases r <;> rfl
      rw [gapRun, h35]
      simp only [Bool.true_or, if_true]
      apply gapRun_remark
      intro b hbm hb10
      have hmem : b ∈ (s.data.toList.drop k).take (runLen isRI (s.data.toList.drop k)) := by
        have e1 : gap s k (endOf isRI s k) = (s.data.toList.drop k).take (runLen isRI (s.data.toList.drop k)) := by
          unfold gap endOf
          congr 1
          omega
        rw [← e1, gap_more s k (k + 1) _ (by omega) hg]
        exact List.mem_append_right _ hbm
      have := runLen_mem _ b hmem
      rw [hb10] at this
      revert this
      decide
    · rcases Nat.lt_or_ge (endOf isRI s k) s.size with hlt | hge
      · right
        have hst : (s.data.toList.drop k)[runLen isRI (s.data.toList.drop k)]? = some (s[endOf isRI s k]'hlt) := by
          rw [List.getElem?_drop]
          show s.data.toList[endOf isRI s k]? = _
          rw [List.getElem?_eq_getElem (by simpa using hlt)]
          rfl
        have := runLen_stop hst
        rw [bat_eq s _ hlt]
        generalize (s[endOf isRI s k]'hlt) = c at this ⊢
        unfold isRI at this
        have h10 : (c.toNat : Int) = 10 := by simpa using this
        apply UInt8.toNat_inj.1
        have : (10 : UInt8).toNat = 10 := rfl
        omega
      · exact Or.inl hge
  · intro k e _ _ _ _ ts h; cases h
  · intro k t hk hb hr ht ih ts h a ha hks hf
    obtain ⟨r', hr', rfl⟩ := more_ok h
    obtain ⟨kd, n, v, h3, ht3, hn, hn1, hn2⟩ := tok_three hk ht
    have hne := lex_ok_ne _ _ hr'
    have hp : t.place = k := by rw [ht3]
    have hkd : t.kind = kd := by rw [ht3]
    have hx : s.extract k (k + n) = t.text := by rw [ht3]
    obtain ⟨r, hrun, _⟩ := hf
    have hcov := ih r' hr' (k + t.text.size) (Nat.le_refl _) (by omega) ⟨false, by rw [gap_same]; rfl, fun h => by cases h⟩
    refine ⟨by omega, by omega, by rw [hp, hn]; exact hx, ⟨fun h0 => absurd (hkd.symm.trans h0) (tokL_kind h3), fun h0 => absurd h0 hne⟩, by rw [hp, hrun]; rfl, fun h0 => absurd h0 hne, fun _ => by rw [hp]; exact hcov⟩

theorem lex_cov {s : ByteArray} {ts : List Tok} (h : lexFrom s 0 = .ok ts) : Cov s 0 ts :=
  lex_covers 0 ts h 0 (Nat.le_refl _) (Nat.zero_le _) ⟨false, by rw [gap_same]; rfl, fun h => by cases h⟩

theorem gap_next {r : Bool} {b : UInt8} {l : List UInt8} (h : (gapRun r (b :: l)).isSome = true) : (gapRun (gapStep r b) l).isSome = true ∧ (gapStep r b || b == 32 || b == 10) = true := by
  rw [gapRun] at h
  split at h
  · exact ⟨h, by assumption⟩
  · cases h

theorem gap_get (s : ByteArray) (a p j : Nat) (_hp : p ≤ s.size) (hj : j < p - a) : (gap s a p).getD j 0 = bat s (a + j) := by
  unfold gap
  rw [bat_drop]
  simp [List.getD_eq_getElem?_getD, hj]

theorem gap_len (s : ByteArray) (a p : Nat) (hp : p ≤ s.size) : (gap s a p).length = p - a := by
  unfold gap
  rw [List.length_take, drop_len]
  omega

theorem gap_drop (s : ByteArray) (a p j : Nat) (hp : p ≤ s.size) (hj : j < p - a) : (gap s a p).drop j = bat s (a + j) :: (gap s a p).drop (j + 1) := by
  have hl := gap_len s a p hp
  rw [List.drop_eq_getElem_cons (by omega)]
  congr 1
  rw [← gap_get s a p j hp hj, List.getD_eq_getElem?_getD, List.getElem?_eq_getElem (by omega)]
  rfl

theorem gap_list (s : ByteArray) (a p : Nat) (h : a ≤ p) : (s.extract a p).data.toList = gap s a p := by
  have := extract_list s a (p - a)
  rw [show a + (p - a) = p by omega] at this
  exact this

theorem byte_is {b : UInt8} {n : Nat} (hn : n < 256) : ((b.toNat : Int) == (n : Int)) = (b == n.toUInt8) := by
  rw [Bool.eq_iff_iff, beq_iff_eq, beq_iff_eq, ← UInt8.toNat_inj]
  have : n.toUInt8.toNat = n := by simp; omega
  omega

end Go.Proofs.YtafhpckhjncecaaDoor
