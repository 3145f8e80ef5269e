/- The tokens that lex makes: a NAME is one by the rule of IsName, a number is within its bounds; so every tree that Parse answers is good. Nothing of the program is walked here. -/
import Derived.Test.YtflhniiemmahmaaDoorGood
import Derived.Test.YtflhniiemmahmaaDoorParse
namespace Go.Proofs.YtflhniiemmahmaaDoor
open Go.RowKit

theorem runLen_self (p : Int → Bool) : ∀ l : List UInt8, runLen p (l.take (runLen p l)) = runLen p l
  | [] => by simp [runLen]
  | b :: r => by
    have ih := runLen_self p r
    by_cases hb : p (b.toNat : Int) = true
    · rw [runLen, if_pos hb, List.take_succ_cons, runLen, if_pos hb, ih]
    · rw [runLen, if_neg hb]; rfl
theorem word_list (s : ByteArray) (k n : Nat) : (s.extract k (k + n)).data.toList = (s.data.toList.drop k).take n := by
  rw [ByteArray.data_extract, Array.toList_extract]
  simp [List.extract]
theorem word_name {s : ByteArray} {k : Nat} {t : Tok} (hk : k < s.size) (hl : isLI ((bat s k).toNat : Int) = true) (h : wordTok s k = .ok t) : t.kind = 1 → isNameB t.text = true := by
  have hz := word_size hk hl h
  unfold wordTok at h
  split at h
  · cases h
  · rename_i h16
    split at h
    · cases h; intro hc; cases hc
    · rename_i hkey
      cases h
      intro _
      have hle := endOf_le isWI s k (by omega)
      have hsz := extract_size' s k (endOf isWI s k) hle
      simp only at hz ⊢
      have hd := drop_at s k hk
      have hlist : (s.extract k (endOf isWI s k)).data.toList = (s.data.toList.drop k).take (runLen isWI (s.data.toList.drop k)) := word_list s k _
      have hrun : endOf isWI (s.extract k (endOf isWI s k)) 0 = (s.extract k (endOf isWI s k)).size := by
        rw [hsz]
        show 0 + runLen isWI ((s.extract k (endOf isWI s k)).data.toList.drop 0) = _
        rw [List.drop_zero, hlist, runLen_self]
        unfold endOf
        omega
      have hat : at0 (s.extract k (endOf isWI s k)) = ((bat s k).toNat : Int) := by
        unfold at0
        rw [hlist, bat_eq s k hk, hd]
        have : 0 < runLen isWI (s.data.toList.drop k) := by
          have h1 := hz.1
          rw [hsz] at h1
          unfold endOf at h1
          omega
        rw [hd] at this
        obtain ⟨m, hm⟩ := Nat.exists_eq_succ_of_ne_zero (Nat.pos_iff_ne_zero.1 this)
        rw [hm, List.take_succ_cons]
        rfl
      unfold isNameB
      rw [hat, hl, hrun]
      have hk2 : isKeyB (s.extract k (endOf isWI s k)) = false := by simpa using hkey
      rw [hk2]
      simp only [Bool.and_true, Bool.not_false, decide_true, Bool.and_eq_true, decide_eq_true_eq]
      exact ⟨hz.1, by omega⟩
theorem tok_name {s : ByteArray} {k : Nat} {t : Tok} (hk : k < s.size) (h : tokAt s k = .ok t) : t.kind = 1 → isNameB t.text = true := by
  have hs : ∀ n, signFrom s k n = .ok t → t.kind ≠ 1 := by
    intro n
    induction n with
    | zero =>
      unfold signFrom signEnd
      split
      · intro h; cases h; simp
      · intro h; cases h
    | succ n ih =>
      unfold signFrom
      split
      · intro h; cases h; simp
      · exact ih
  unfold tokAt at h
  split at h
  · rename_i hl
    exact word_name hk hl h
  · split at h
    · unfold numTok at h
      split at h
      · cases h
      · cases h; intro hc; cases hc
    · intro hc; exact absurd hc (hs 3 h)
theorem lexFrom_names {s : ByteArray} : ∀ k, ∀ ts, lexFrom s k = .ok ts → ∀ t ∈ ts, t.kind = 1 → isNameB t.text = true := by
  apply lex_ind (P := fun k r => ∀ ts, r = .ok ts → ∀ t ∈ ts, t.kind = 1 → isNameB t.text = true)
  · intro k _ ts h t ht
    cases h
    obtain rfl : t = endTok s := by simpa using ht
    intro hc; cases hc
  · intro k _ _ ih; exact ih
  · intro k _ _ ih; exact ih
  · intro k e _ _ _ _ ts h; cases h
  · intro k t hk _ _ ht ih ts h
    cases hr : lexFrom s (k + t.text.size) with
    | error e => rw [hr] at h; cases h
    | ok ts' =>
      rw [hr] at h
      cases h
      intro u hu
      rcases List.mem_cons.1 hu with rfl | hu
      · exact tok_name hk ht
      · exact ih ts' hr u hu
theorem lexAll_TG {s : ByteArray} {ts : List Tok} (h : lexAll s = .ok ts) : TG ts := by
  have hg := (lexAll_good h).2.1
  unfold lexAll at h
  split at h
  · cases h
  · exact fun t ht => ⟨lexFrom_names 0 ts h t ht, (hg t ht).num⟩

theorem zero_good : zeroT.good = true := good_leaf (node_free rfl rfl num0)
/- Every tree that Parse answers is good, and has no more than 4096 nodes. -/
theorem parse_good (s : ByteArray) : (parseB s).1.good = true ∧ (parseB s).1.size ≤ 4096 := by
  have hz : zeroT.good = true ∧ zeroT.size ≤ 4096 := ⟨zero_good, by unfold zeroT; rw [size_mk, sizes_nil]; omega⟩
  unfold parseB
  cases hl : lexAll s with
  | error e => exact hz
  | ok ts =>
    simp only
    unfold parseToks
    cases hu : unitP ts with
    | error e => exact hz
    | ok q =>
      obtain ⟨t, l⟩ := q
      simp only
      by_cases hs : 4096 < t.size
      · rw [if_pos hs]; exact hz
      · rw [if_neg hs]; exact ⟨unit_g (lexAll_TG hl) hu, by simp only; omega⟩

end Go.Proofs.YtflhniiemmahmaaDoor
