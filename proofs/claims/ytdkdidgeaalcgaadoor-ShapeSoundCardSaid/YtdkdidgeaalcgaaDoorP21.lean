/- A region that draws its order, all of whose operations leave a condition S as it is: those that yield are taken first, the others walked in their one order. Nothing of the program is walked here. Trees that are alike, as a Bool. Nothing of the program is walked here. Plain facts on texts that are joined by a line feed: the tokens of the first but for its End, then those of the second, further back. Nothing of the program is walked here. Plain facts on tokens that are written with a blank behind each: they are read as the same tokens, but for their places. Nothing of the program is walked here. Two texts whose tokens are alike but for places give alike trees, or the same fault; and tokens that are written with blanks and remarks around them are the same tokens. Nothing of the program is walked here. -/
import Derived.Test.YtdkdidgeaalcgaaDoorP05
import Derived.Test.YtdkdidgeaalcgaaDoorP20
import Derived.Test.YtdkdidgeaalcgaaDoorP17
namespace Go.Proofs.YtdkdidgeaalcgaaDoor
section
open Go.RowKit

section
variable {P : Program} {ops : Array Oper} {Q : Exit → Act → World → Prop} {md : Region.Mode} {S : World → Prop}
theorem AnyH.one {i : Nat} {o : Oper} {fuel : Nat} {listed : Array Bool} {a : Act} {w : World} (hr : Region.ready md ops listed = [i]) (ho : ops[i]? = some o) (hw : Region.wanted o (yielded ops a.tmps) = true)
    (h : ∀ K : Act → World → Prop, Shut (∀ a w, S w → wpAnyH P md ops Q S fuel (listed.setIfInBounds i true) a w → K a w) → o.wp P a w K Q) : wpAnyH P md ops Q S (fuel + 1) listed a w := by
  refine ⟨(fun h0 => by rw [hr] at h0; cases h0), fun j hj => ?_⟩
  rw [hr] at hj
  obtain rfl : j = i := by simpa using hj
  refine wpOp_step ho fun K' hK => ?_
  rw [if_pos hw]
  exact h K' fun a w hS hA => hK a w ⟨hS, hA⟩
end

mutual
def alikeB (b : Bool) : T → T → Bool
  | .mk k s n p ks, u => !(k != u.kind) && (s.toList == u.text.toList && (!(n != u.num) && (!(b && (p != u.place)) && (!(ks.length != u.kids.length) && alikesB b ks u.kids))))
def alikesB (b : Bool) : List T → List T → Bool
  | [], _ => true
  | t :: ts, us => match us with
    | [] => false
    | u :: us' => alikeB b t u && alikesB b ts us'
end
theorem alike_eq (b : Bool) (t u : T) : alikeB b t u = (!(t.kind != u.kind) && (t.text.toList == u.text.toList && (!(t.num != u.num) && (!(b && (t.place != u.place)) && (!(t.kids.length != u.kids.length) && alikesB b t.kids u.kids))))) := by cases t; rw [alikeB]; rfl
theorem alikes_nil (b : Bool) (us : List T) : alikesB b [] us = true := by rw [alikesB]
theorem alikes_cons (b : Bool) (t u : T) (ts us : List T) : alikesB b (t :: ts) (u :: us) = (alikeB b t u && alikesB b ts us) := by rw [alikesB]
theorem alike_kind {b : Bool} {t u : T} (h : (t.kind != u.kind) = true) : alikeB b t u = false := by rw [alike_eq, h]; rfl
theorem alike_text {b : Bool} {t u : T} (h : (t.text.toList == u.text.toList) = false) : alikeB b t u = false := by rw [alike_eq, h]; simp
theorem alike_num {b : Bool} {t u : T} (h : (t.num != u.num) = true) : alikeB b t u = false := by rw [alike_eq, h]; simp
theorem alike_place {t u : T} (h : (t.place != u.place) = true) : alikeB true t u = false := by rw [alike_eq, h]; simp
theorem alike_len {b : Bool} {t u : T} (h : (t.kids.length != u.kids.length) = true) : alikeB b t u = false := by rw [alike_eq, h]; simp
theorem alike_kids {b : Bool} {t u : T} (h1 : (t.kind != u.kind) = false) (h2 : (t.text.toList == u.text.toList) = true) (h3 : (t.num != u.num) = false) (h4 : b = true → (t.place != u.place) = false) (h5 : (t.kids.length != u.kids.length) = false) : alikeB b t u = alikesB b t.kids u.kids := by
  rw [alike_eq, h1, h2, h3, h5]
  cases b
  · simp
  · rw [h4 rfl]; simp
theorem alikes_drop {b : Bool} {ts us : List T} {k : Nat} {t u : T} (ht : ts[k]? = some t) (hu : us[k]? = some u) : alikesB b (ts.drop k) (us.drop k) = (alikeB b t u && alikesB b (ts.drop (k + 1)) (us.drop (k + 1))) := by
  obtain ⟨h1, h2⟩ := List.getElem?_eq_some_iff.1 ht
  obtain ⟨h3, h4⟩ := List.getElem?_eq_some_iff.1 hu
  rw [List.drop_eq_getElem_cons h1, List.drop_eq_getElem_cons h3, alikes_cons, h2, h4]

theorem KAt.len {e : TypeId} {w : World} {ks : List T} {S : Nat → Prop} {v : Value} (h : KAt e w ks S v) : ∃ a c, v = .slice a ks.length c := by
  obtain ⟨_, ho, _⟩ := h
  rcases ho.2 with ⟨rfl, h0⟩ | ⟨g, cap, _, rfl, _⟩
  · exact ⟨none, 0, by rw [h0]⟩
  · exact ⟨_, _, rfl⟩

mutual
theorem TR.alike {ρ : Nat → Nat → Prop} {b : Bool} (hb : b = true → ∀ p q, ρ p q → p = q) : ∀ {t u : T}, TR ρ t u → alikeB b t u = true
  | .mk k s n p ks, u, h => by
    unfold TR at h
    obtain ⟨h1, h2, h3, h4, h5⟩ := h
    have h6 : ks.length = u.kids.length := TsR.len h5
    have h7 : alikesB b ks u.kids = true := TsR.alike hb h5
    rw [alikeB, h7, ← h1, ← h2, ← h3, ← h6]
    cases b
    · simp
    · rw [← hb rfl _ _ h4]; simp
theorem TsR.alike {ρ : Nat → Nat → Prop} {b : Bool} (hb : b = true → ∀ p q, ρ p q → p = q) : ∀ {ts us : List T}, TsR ρ ts us → alikesB b ts us = true
  | [], us, h => by rw [alikesB]
  | t :: ts, us, h => by
    unfold TsR at h
    obtain ⟨u, us', rfl, h1, h2⟩ := h
    rw [alikes_cons, TR.alike hb h1, TsR.alike hb h2]
    rfl
theorem TsR.len {ρ : Nat → Nat → Prop} : ∀ {ts us : List T}, TsR ρ ts us → ts.length = us.length
  | [], us, h => by unfold TsR at h; rw [h]
  | t :: ts, us, h => by
    unfold TsR at h
    obtain ⟨u, us', rfl, _, h2⟩ := h
    simp [TsR.len h2]
end
mutual
theorem TR.size {ρ : Nat → Nat → Prop} : ∀ {t u : T}, TR ρ t u → t.size = u.size
  | .mk k s n p ks, u, h => by
    unfold TR at h
    obtain ⟨h1, h2, h3, h4, h5⟩ := h
    cases u
    rw [size_mk, size_mk, TsR.sizes h5]
    rfl
theorem TsR.sizes {ρ : Nat → Nat → Prop} : ∀ {ts us : List T}, TsR ρ ts us → Go.Proofs.YtdkdidgeaalcgaaDoor.sizes ts = Go.Proofs.YtdkdidgeaalcgaaDoor.sizes us
  | [], us, h => by unfold TsR at h; rw [h]
  | t :: ts, us, h => by
    unfold TsR at h
    obtain ⟨u, us', rfl, h1, h2⟩ := h
    rw [sizes_cons, sizes_cons, TR.size h1, TsR.sizes h2]
end
end

section
open Go.RowKit

def joinB (a b : ByteArray) : ByteArray := a ++ ⟨#[10]⟩ ++ b

theorem joinB_list (a b : ByteArray) : (joinB a b).data.toList = a.data.toList ++ 10 :: b.data.toList := by
  unfold joinB
  rw [ByteArray.data_append, ByteArray.data_append]
  simp

theorem joinB_size (a b : ByteArray) : (joinB a b).size = a.size + b.size + 1 := by
  have h : (joinB a b).data.toList.length = (joinB a b).size := Array.length_toList
  have ha : a.data.toList.length = a.size := Array.length_toList
  have hb : b.data.toList.length = b.size := Array.length_toList
  rw [← h, joinB_list, List.length_append, List.length_cons]
  omega

theorem joinB_drop (a b : ByteArray) (j : Nat) (h : j ≤ a.size) : (joinB a b).data.toList.drop j = a.data.toList.drop j ++ 10 :: b.data.toList := by
  have ha : a.data.toList.length = a.size := Array.length_toList
  rw [joinB_list, List.drop_append_of_le_length (by omega)]

theorem joinB_drop2 (a b : ByteArray) (j : Nat) : (joinB a b).data.toList.drop (a.size + 1 + j) = b.data.toList.drop j := by
  have ha : a.data.toList.length = a.size := Array.length_toList
  rw [joinB_list, List.drop_append, List.drop_of_length_le (by omega), List.nil_append, show a.size + 1 + j - a.data.toList.length = j + 1 by omega, List.drop_succ_cons]

theorem bat_join (a b : ByteArray) (j : Nat) (h : j < a.size) : bat (joinB a b) j = bat a j := by
  rw [bat_drop0, joinB_drop a b j (by omega), bat_drop0]
  have := drop_ne h
  cases hl : a.data.toList.drop j with
  | nil => exact absurd hl this
  | cons c r => rfl

theorem bat_join2 (a b : ByteArray) (j : Nat) : bat (joinB a b) (a.size + 1 + j) = bat b j := by rw [bat_drop0, joinB_drop2, ← bat_drop0]

theorem bat_mid (a b : ByteArray) : bat (joinB a b) a.size = 10 := by
  have ha : a.data.toList.length = a.size := Array.length_toList
  rw [bat_drop0, joinB_drop a b a.size (Nat.le_refl _), List.drop_of_length_le (by omega)]
  rfl

theorem run_append {p : Int → Bool} (h10 : p 10 = false) (l r : List UInt8) : runLen p (l ++ 10 :: r) = runLen p l := by
  have hle := runLen_le p l
  refine runLen_congr _ rfl (by rw [List.take_append_of_le_length hle]) (by simp; omega) ?_
  intro b hb
  rcases Nat.lt_or_ge (runLen p l) l.length with h | h
  · rw [List.getElem?_append_left h] at hb
    exact runLen_stop hb
  · rw [List.getElem?_append_right h, show runLen p l - l.length = 0 by omega] at hb
    simp at hb
    rw [← hb]
    exact h10

theorem tokL_append {l r : List UInt8} {kd n v : Nat} (hl : l ≠ []) (h : tokL l = .ok (kd, n, v)) (hn : n ≤ l.length) : tokL (l ++ 10 :: r) = .ok (kd, n, v) := by
  refine tokL_congr hl h (by rw [List.take_append_of_le_length hn]) (by simp; omega) ?_
  rcases Nat.lt_or_ge n l.length with h1 | h1
  · right; left
    rw [List.getElem?_append_left h1]
  · right; right; right
    rw [List.getElem?_append_right h1, show n - l.length = 0 by omega]
    rfl

theorem more_ok {ts rs : List Tok} {r : LexRes} (h : more ts r = .ok rs) : ∃ r', r = .ok r' ∧ rs = ts ++ r' := by
  cases r with
  | error e => cases h
  | ok r' => cases h; exact ⟨r', rfl, rfl⟩

theorem lex_ok_ne {s : ByteArray} : ∀ j ts, lexFrom s j = .ok ts → ts ≠ [] := by
  intro j
  apply lex_ind (P := fun _ r => ∀ ts, r = .ok ts → ts ≠ [])
  · intro k _ ts h; cases h; simp
  · intro k _ _ ih; exact ih
  · intro k _ _ ih; exact ih
  · intro k e _ _ _ _ ts h; cases h
  · intro k t _ _ _ _ ih ts h
    obtain ⟨r', hr', rfl⟩ := more_ok h
    simp

theorem lex_len {s : ByteArray} : ∀ j ts, j ≤ s.size → lexFrom s j = .ok ts → ts.length + j ≤ s.size + 1 := by
  intro j
  apply lex_ind (s := s) (P := fun j r => ∀ ts, j ≤ s.size → r = .ok ts → ts.length + j ≤ s.size + 1)
  · intro k _ ts _ h; cases h; simp; omega
  · intro k hk _ ih ts _ h
    have := ih ts (by omega) h
    omega
  · intro k hk hb ih ts _ h
    have := ih ts (endOf_le _ _ _ (by omega)) h
    have := remark_gt hk hb
    omega
  · intro k e _ _ _ _ ts _ h; cases h
  · intro k t hk _ _ ht ih ts _ h
    obtain ⟨r', hr', rfl⟩ := more_ok h
    have h2 := tokAt_size hk ht
    have := ih r' (by omega) hr'
    simp
    omega

theorem lex_place {s : ByteArray} : ∀ j ts, j ≤ s.size → lexFrom s j = .ok ts → ∀ t ∈ ts, t.place ≤ s.size ∧ t.place + t.text.size ≤ s.size := by
  intro j
  apply lex_ind (s := s) (P := fun j r => ∀ ts, j ≤ s.size → r = .ok ts → ∀ t ∈ ts, t.place ≤ s.size ∧ t.place + t.text.size ≤ s.size)
  · intro k _ ts _ h t ht
    cases h
    obtain rfl : t = endTok s := by simpa using ht
    exact ⟨Nat.le_refl _, Nat.le_refl _⟩
  · intro k hk _ ih ts _ h
    exact ih ts (by omega) h
  · intro k hk hb ih ts _ h
    exact ih ts (endOf_le _ _ _ (by omega)) h
  · intro k e _ _ _ _ ts _ h; cases h
  · intro k t hk _ _ ht ih ts _ h u hu
    obtain ⟨r', hr', rfl⟩ := more_ok h
    obtain ⟨kd, n, v, h3, ht3, hn, hn1, hn2⟩ := tok_three hk ht
    rcases List.mem_append.1 hu with hu | hu
    · obtain rfl : u = t := by simpa using hu
      have hp : u.place = k := by rw [ht3]
      exact ⟨by omega, by omega⟩
    · exact ih r' (by omega) hr' u hu

/- The first text's part. -/
theorem join_first (a b : ByteArray) : ∀ j ts, j ≤ a.size → lexFrom a j = .ok ts → lexFrom (joinB a b) j = more ts.dropLast (lexFrom (joinB a b) a.size) := by
  have hsz := joinB_size a b
  intro j
  apply lex_ind (s := a) (P := fun j r => ∀ ts, j ≤ a.size → r = .ok ts → lexFrom (joinB a b) j = more ts.dropLast (lexFrom (joinB a b) a.size))
  · intro k hk ts hj h
    obtain rfl : k = a.size := by omega
    cases h
    simp [more_nil]
  · intro k hk hb ih ts _ h
    rw [lex_blank (by omega) (by rw [bat_join a b k hk]; exact hb)]
    exact ih ts (by omega) h
  · intro k hk hb ih ts _ h
    have hE : endOf isRI (joinB a b) k = endOf isRI a k := by
      unfold endOf
      rw [joinB_drop a b k (by omega), run_append (by decide)]
    rw [lex_remark (by omega) (by rw [bat_join a b k hk]; exact hb), hE]
    exact ih ts (endOf_le _ _ _ (by omega)) h
  · intro k e _ _ _ _ ts _ h; cases h
  · intro k t hk hb hr ht ih ts _ h
    obtain ⟨r', hr', rfl⟩ := more_ok h
    obtain ⟨kd, n, v, h3, ht3, hn, hn1, hn2⟩ := tok_three hk ht
    have hx : (joinB a b).extract k (k + n) = a.extract k (k + n) := by
      apply bytes_ext
      rw [extract_list, extract_list, joinB_drop a b k (by omega), List.take_append_of_le_length (by rw [drop_len]; omega)]
    have htp : tokAt (joinB a b) k = .ok t := by
      rw [tokL_eq, joinB_drop a b k (by omega), tokL_append (drop_ne hk) h3 (by rw [drop_len]; omega), ht3]
      show Except.ok _ = _
      rw [hx]
    have hne := lex_ok_ne _ _ hr'
    rw [lex_tok (by omega) (by rw [bat_join a b k hk]; exact hb) (by rw [bat_join a b k hk]; exact hr) htp, ih r' (by omega) hr', more_more,
      List.singleton_append, List.singleton_append, List.dropLast_cons_of_ne_nil hne]

def shiftTok (d : Nat) (t : Tok) : Tok := ⟨t.kind, t.text, t.num, t.place + d⟩

/- The second text's part. -/
theorem join_second (a b : ByteArray) : ∀ j ts, lexFrom b j = .ok ts → lexFrom (joinB a b) (a.size + 1 + j) = .ok (ts.map (shiftTok (a.size + 1))) := by
  have hsz := joinB_size a b
  intro j
  apply lex_ind (s := b) (P := fun j r => ∀ ts, r = .ok ts → lexFrom (joinB a b) (a.size + 1 + j) = .ok (ts.map (shiftTok (a.size + 1))))
  · intro k hk ts h
    cases h
    rw [lex_end (by omega)]
    simp [endTok, shiftTok, hsz]
    omega
  · intro k hk hb ih ts h
    rw [lex_blank (by omega) (by rw [bat_join2]; exact hb), Nat.add_assoc]
    exact ih ts h
  · intro k hk hb ih ts h
    have hE : endOf isRI (joinB a b) (a.size + 1 + k) = a.size + 1 + endOf isRI b k := by
      unfold endOf
      rw [joinB_drop2, Nat.add_assoc (a.size + 1)]
    rw [lex_remark (by omega) (by rw [bat_join2]; exact hb), hE]
    exact ih ts h
  · intro k e _ _ _ _ ts h; cases h
  · intro k t hk hb hr ht ih ts h
    obtain ⟨r', hr', rfl⟩ := more_ok h
    obtain ⟨kd, n, v, h3, ht3, hn, hn1, hn2⟩ := tok_three hk ht
    have hx : (joinB a b).extract (a.size + 1 + k) (a.size + 1 + k + n) = b.extract k (k + n) := by
      apply bytes_ext
      rw [extract_list, extract_list, joinB_drop2]
    have htp : tokAt (joinB a b) (a.size + 1 + k) = .ok (shiftTok (a.size + 1) t) := by
      rw [tokL_eq, joinB_drop2, h3, ht3]
      show Except.ok _ = Except.ok _
      rw [hx]
      simp [shiftTok]
      omega
    have hst : (shiftTok (a.size + 1) t).text.size = t.text.size := rfl
    rw [lex_tok (by omega) (by rw [bat_join2]; exact hb) (by rw [bat_join2]; exact hr) htp, hst, Nat.add_assoc, ih r' hr']
    rfl

theorem lex_join {a b : ByteArray} {ta tb : List Tok} (ha : lexAll a = .ok ta) (hb : lexAll b = .ok tb) (h : a.size + b.size + 1 ≤ 16384) :
    lexAll (joinB a b) = .ok (ta.dropLast ++ tb.map (shiftTok (a.size + 1))) := by
  have hsz := joinB_size a b
  have ha' : lexFrom a 0 = .ok ta := by unfold lexAll at ha; rw [if_neg (by omega)] at ha; exact ha
  have hb' : lexFrom b 0 = .ok tb := by unfold lexAll at hb; rw [if_neg (by omega)] at hb; exact hb
  unfold lexAll
  rw [if_neg (by omega), join_first a b 0 ta (by omega) ha', lex_blank (by omega) (by rw [bat_mid]; decide)]
  have := join_second a b 0 tb hb'
  rw [Nat.add_zero] at this
  rw [this]
  rfl
end

section
open Go.RowKit

def joinT (ts : List Tok) : List UInt8 := ts.flatMap fun t => t.text.data.toList ++ [32]

def strip (t : Tok) : Nat × ByteArray × Nat := (t.kind, t.text, t.num)

theorem joinT_cons (t : Tok) (ts : List Tok) : joinT (t :: ts) = t.text.data.toList ++ 32 :: joinT ts := by simp [joinT]

theorem drop_more {S : ByteArray} {q n : Nat} {l r : List UInt8} (h : S.data.toList.drop q = l ++ r) (hn : l.length = n) : S.data.toList.drop (q + n) = r := by
  rw [← List.drop_drop, h, List.drop_append, List.drop_of_length_le (by omega), List.nil_append, show n - l.length = 0 by omega, List.drop_zero]

theorem lt_of_drop {S : ByteArray} {q : Nat} {b : UInt8} {r : List UInt8} (h : S.data.toList.drop q = b :: r) : q < S.size ∧ bat S q = b := by
  constructor
  · have := congrArg List.length h
    rw [drop_len, List.length_cons] at this
    omega
  · rw [bat_drop0, h]; rfl

theorem lex_again {s : ByteArray} : ∀ j ts, lexFrom s j = .ok ts → ∀ (S : ByteArray) (q : Nat), S.data.toList.drop q = joinT ts → ∃ ts', lexFrom S q = .ok ts' ∧ ts'.map strip = ts.map strip := by
  intro j
  apply lex_ind (s := s) (P := fun j r => ∀ ts, r = .ok ts → ∀ (S : ByteArray) (q : Nat), S.data.toList.drop q = joinT ts → ∃ ts', lexFrom S q = .ok ts' ∧ ts'.map strip = ts.map strip)
  · intro k _ ts h S q hq
    cases h
    have hq' : S.data.toList.drop q = 32 :: [] := hq
    obtain ⟨h1, h2⟩ := lt_of_drop hq'
    have h3 : S.size = q + 1 := by
      have := congrArg List.length hq'
      rw [drop_len] at this
      simp at this
      omega
    exact ⟨[endTok S], by rw [lex_blank h1 (by rw [h2]; decide), lex_end (by omega)], rfl⟩
  · intro k _ _ ih; exact ih
  · intro k _ _ ih; exact ih
  · intro k e _ _ _ _ ts h; cases h
  · intro k t hk hb hr ht ih ts h S q hq
    obtain ⟨r', hr', rfl⟩ := more_ok h
    obtain ⟨kd, n, v, h3, ht3, hn, hn1, hn2⟩ := tok_three hk ht
    have hT : t.text.data.toList = (s.data.toList.drop k).take n := by rw [ht3]; exact extract_list s k n
    have hTl : t.text.data.toList.length = n := by rw [hT, List.length_take, drop_len]; omega
    have hq' : S.data.toList.drop q = t.text.data.toList ++ 32 :: joinT r' := by rw [hq, List.singleton_append, joinT_cons]
    have htk : (S.data.toList.drop q).take n = (s.data.toList.drop k).take n := by
      rw [hq', List.take_append_of_le_length (by omega), ← hTl, List.take_length, hT]
      congr 1
      rw [List.length_take, drop_len]
      omega
    have h4 : tokL (S.data.toList.drop q) = .ok (kd, n, v) := by
      refine tokL_congr (drop_ne hk) h3 htk (by rw [hq', List.length_append]; omega) ?_
      right; right; left
      rw [hq', List.getElem?_append_right (by omega), show n - t.text.data.toList.length = 0 by omega]
      rfl
    have hhd := head_congr hn1 htk
    have hbq : bat S q = bat s k := by rw [bat_drop0, hhd, ← bat_drop0]
    have hqs : q + n + 1 ≤ S.size := by
      have := congrArg List.length hq'
      rw [drop_len, List.length_append, List.length_cons] at this
      omega
    have hx : S.extract q (q + n) = t.text := by
      apply bytes_ext
      rw [extract_list, htk, hT]
    have htok : tokAt S q = .ok ⟨kd, t.text, v, q⟩ := by
      rw [tokL_eq, h4]
      show Except.ok _ = _
      rw [hx]
    have hnext := drop_more hq' hTl
    obtain ⟨h5, h6⟩ := lt_of_drop hnext
    have hnext2 : S.data.toList.drop (q + n + 1) = joinT r' := by
      rw [← List.drop_drop, hnext]
      rfl
    obtain ⟨ts', h7, h8⟩ := ih r' hr' S (q + n + 1) hnext2
    refine ⟨[⟨kd, t.text, v, q⟩] ++ ts', ?_, ?_⟩
    · rw [lex_tok (by omega) (by rw [hbq]; exact hb) (by rw [hbq]; exact hr) htok]
      simp only [hn]
      rw [lex_blank h5 (by rw [h6]; decide), h7]
      rfl
    · rw [List.map_append, List.map_append, h8]
      congr 1
      have h9 : t.kind = kd ∧ t.num = v := by rw [ht3]; exact ⟨rfl, rfl⟩
      simp [strip, h9.1, h9.2]

theorem joinT_snoc (ts : List Tok) (t : Tok) : joinT (ts ++ [t]) = joinT ts ++ (t.text.data.toList ++ [32]) := by simp [joinT]

theorem joinT_take (ts : List Tok) (k : Nat) (hk : k < ts.length) : joinT (ts.take (k + 1)) = joinT (ts.take k) ++ (ts[k].text.data.toList ++ [32]) := by
  rw [List.take_succ_eq_append_getElem hk, joinT_snoc]

theorem cat_list (a b : ByteArray) : (a ++ b).data.toList = a.data.toList ++ b.data.toList := by
  rw [ByteArray.data_append]
  simp
end

section
open Go.RowKit

theorem Al.append {ρ : Nat → Nat → Prop} {a a' b b' : List Tok} (h : Al ρ a a') (h' : Al ρ b b') : Al ρ (a ++ b) (a' ++ b') := by
  induction h with
  | nil => exact h'
  | cons ht _ ih => exact .cons ht ih
theorem Al.length {ρ : Nat → Nat → Prop} {a a' : List Tok} (h : Al ρ a a') : a.length = a'.length := by
  induction h with
  | nil => rfl
  | cons _ _ ih => simp [ih]

/- A list that ends with what no reader takes is read within. -/
theorem unit_full {ρ : Nat → Nat → Prop} {l l' : List Tok} (h : Al ρ l l') (hend : ∃ t ∈ l, ¬ Con t) :
    (∃ xs xs' k k', unitP l = .ok (.mk 0 e0 0 0 xs, k) ∧ unitP l' = .ok (.mk 0 e0 0 0 xs', k') ∧ TsR ρ xs xs') ∨ (∃ p p' e, unitP l = .error (p, e) ∧ unitP l' = .error (p', e) ∧ ρ p p' ∧ ∃ t ∈ l, p = t.place) := by
  have h1 := unitF_s (x := []) (x' := []) (l.length + 1) (l'.length + 1) h (by simp) (by simp)
  rw [List.append_nil, List.append_nil] at h1
  rcases h1 with ⟨a, a', d, k, d', k', e1, e2, hv, _⟩ | ⟨p, p', e, e1, e2, hr, hm⟩ | ⟨hc, _⟩
  · exact .inl ⟨a, a', _, _, by unfold unitP; exact bd_ok e1 _, by unfold unitP; exact bd_ok e2 _, hv⟩
  · exact .inr ⟨p, p', e, by unfold unitP; exact bd_err e1 _, by unfold unitP; exact bd_err e2 _, hr, hm⟩
  · obtain ⟨t, ht, hn⟩ := hend
    exact absurd (hc t ht) hn

theorem parse_full {ρ : Nat → Nat → Prop} {l l' : List Tok} (h : Al ρ l l') (hend : ∃ t ∈ l, ¬ Con t) :
    (∃ xs xs', parseToks l = (.mk 0 e0 0 0 xs, 0, 0) ∧ parseToks l' = (.mk 0 e0 0 0 xs', 0, 0) ∧ TsR ρ xs xs') ∨ (∃ p p' e, parseToks l = (zeroT, p, e) ∧ parseToks l' = (zeroT, p', e) ∧ ρ p p') ∨ (parseToks l = (zeroT, 0, 22) ∧ parseToks l' = (zeroT, 0, 22)) := by
  rcases unit_full h hend with ⟨xs, xs', k, k', e1, e2, hv⟩ | ⟨p, p', e, e1, e2, hr, _⟩
  · have hz : (T.mk 0 e0 0 0 xs).size = (T.mk 0 e0 0 0 xs').size := by rw [size_mk, size_mk, TsR.sizes hv]
    by_cases hb : 4096 < (T.mk 0 e0 0 0 xs).size
    · exact .inr (.inr ⟨by unfold parseToks; rw [e1]; exact if_pos hb, by unfold parseToks; rw [e2]; exact if_pos (hz ▸ hb)⟩)
    · exact .inl ⟨xs, xs', by unfold parseToks; rw [e1]; exact if_neg hb, by unfold parseToks; rw [e2]; exact if_neg (hz ▸ hb), hv⟩
  · exact .inr (.inl ⟨p, p', e, by unfold parseToks; rw [e1], by unfold parseToks; rw [e2], hr⟩)

theorem lex_end_mem {s : ByteArray} : ∀ j ts, lexFrom s j = .ok ts → endTok s ∈ ts := by
  intro j
  apply lex_ind (s := s) (P := fun _ r => ∀ ts, r = .ok ts → endTok s ∈ ts)
  · intro k _ ts h; cases h; simp
  · intro k _ _ ih; exact ih
  · intro k _ _ ih; exact ih
  · intro k e _ _ _ _ ts h; cases h
  · intro k t _ _ _ _ ih ts h
    obtain ⟨r', hr', rfl⟩ := more_ok h
    exact List.mem_append_right _ (ih r' hr')
theorem end_nc (s : ByteArray) : ¬ Con (endTok s) := by rintro (h | h | h) <;> first | (simp [endTok] at h; done) | exact absurd (show 0 < (ByteArray.mk #[]).size from h) (by decide)
theorem lexAll_from {s : ByteArray} {ts : List Tok} (h : lexAll s = .ok ts) : lexFrom s 0 = .ok ts ∧ s.size ≤ 16384 := by
  unfold lexAll at h
  split at h
  · cases h
  · exact ⟨h, by omega⟩
theorem lexAll_end {s : ByteArray} {ts : List Tok} (h : lexAll s = .ok ts) : ∃ t ∈ ts, ¬ Con t := ⟨_, lex_end_mem 0 ts (lexAll_from h).1, end_nc s⟩

theorem parseB_ok {s : ByteArray} {ts : List Tok} (h : lexAll s = .ok ts) : parseB s = parseToks ts := by unfold parseB; rw [h]
theorem parseB_err {s : ByteArray} {p : Nat} {e : Int} (h : lexAll s = .error (p, e)) : parseB s = (zeroT, p, e) := by unfold parseB; rw [h]

/- Tokens with blanks and remarks around each. -/
def joinX (ts : List Tok) : List UInt8 := ts.flatMap fun t => 10 :: (t.text.data.toList ++ [32, 35, 120, 10])
theorem joinX_cons (t : Tok) (ts : List Tok) : joinX (t :: ts) = 10 :: (t.text.data.toList ++ 32 :: 35 :: 120 :: 10 :: joinX ts) := by simp [joinX]
theorem joinX_snoc (ts : List Tok) (t : Tok) : joinX (ts ++ [t]) = joinX ts ++ (10 :: (t.text.data.toList ++ [32, 35, 120, 10])) := by simp [joinX]
theorem joinX_take (ts : List Tok) (k : Nat) (hk : k < ts.length) : joinX (ts.take (k + 1)) = joinX (ts.take k) ++ (10 :: (ts[k].text.data.toList ++ [32, 35, 120, 10])) := by
  rw [List.take_succ_eq_append_getElem hk, joinX_snoc]

theorem lex_gapX {S : ByteArray} {q : Nat} {r : List UInt8} (h : S.data.toList.drop q = 32 :: 35 :: 120 :: 10 :: r) : lexFrom S q = lexFrom S (q + 4) ∧ S.data.toList.drop (q + 4) = r := by
  have d1 : S.data.toList.drop (q + 1) = 35 :: 120 :: 10 :: r := by rw [← List.drop_drop, h]; rfl
  have d3 : S.data.toList.drop (q + 1 + 2) = 10 :: r := by rw [← List.drop_drop, d1]; rfl
  have d4 : S.data.toList.drop (q + 4) = r := by rw [show q + 4 = q + 1 + 2 + 1 by omega, ← List.drop_drop, d3]; rfl
  obtain ⟨a0, b0⟩ := lt_of_drop h
  obtain ⟨a1, b1⟩ := lt_of_drop d1
  obtain ⟨a3, b3⟩ := lt_of_drop d3
  have hE : endOf isRI S (q + 1) = q + 1 + 2 := by
    unfold endOf
    rw [d1]
    rfl
  exact ⟨by rw [lex_blank a0 (by rw [b0]; decide), lex_remark a1 b1, hE, lex_blank a3 (by rw [b3]; decide)], d4⟩

theorem lex_blanks {s : ByteArray} : ∀ j ts, lexFrom s j = .ok ts → ∀ (S : ByteArray) (q : Nat), S.data.toList.drop q = joinX ts → ∃ ts', lexFrom S q = .ok ts' ∧ Al (fun _ _ => True) ts ts' := by
  intro j
  apply lex_ind (s := s) (P := fun j r => ∀ ts, r = .ok ts → ∀ (S : ByteArray) (q : Nat), S.data.toList.drop q = joinX ts → ∃ ts', lexFrom S q = .ok ts' ∧ Al (fun _ _ => True) ts ts')
  · intro k _ ts h S q hq
    cases h
    have hq' : S.data.toList.drop q = 10 :: 32 :: 35 :: 120 :: 10 :: [] := hq
    obtain ⟨h1, h2⟩ := lt_of_drop hq'
    have hd : S.data.toList.drop (q + 1) = 32 :: 35 :: 120 :: 10 :: [] := by rw [← List.drop_drop, hq']; rfl
    obtain ⟨h3, h4⟩ := lex_gapX hd
    have h5 : S.size ≤ q + 1 + 4 := by
      have := congrArg List.length h4
      rw [drop_len] at this
      simp at this
      omega
    exact ⟨[endTok S], by rw [lex_blank h1 (by rw [h2]; decide), h3, lex_end h5], .cons ⟨rfl, rfl, rfl, trivial⟩ .nil⟩
  · intro k _ _ ih; exact ih
  · intro k _ _ ih; exact ih
  · intro k e _ _ _ _ ts h; cases h
  · intro k t hk hb hr ht ih ts h S q0 hq0
    obtain ⟨r', hr', rfl⟩ := more_ok h
    obtain ⟨kd, n, v, h3, ht3, hn, hn1, hn2⟩ := tok_three hk ht
    have hT : t.text.data.toList = (s.data.toList.drop k).take n := by rw [ht3]; exact extract_list s k n
    have hTl : t.text.data.toList.length = n := by rw [hT, List.length_take, drop_len]; omega
    rw [List.singleton_append, joinX_cons] at hq0
    obtain ⟨g0, g1⟩ := lt_of_drop hq0
    obtain ⟨q, rfl⟩ : ∃ q, q = q0 + 1 := ⟨_, rfl⟩
    have hq' : S.data.toList.drop (q0 + 1) = t.text.data.toList ++ 32 :: 35 :: 120 :: 10 :: joinX r' := by rw [← List.drop_drop, hq0]; rfl
    rw [lex_blank g0 (by rw [g1]; decide)]
    generalize q0 + 1 = q at hq' ⊢
    have htk : (S.data.toList.drop q).take n = (s.data.toList.drop k).take n := by
      rw [hq', List.take_append_of_le_length (by omega), ← hTl, List.take_length, hT]
      congr 1
      rw [List.length_take, drop_len]
      omega
    have h4 : tokL (S.data.toList.drop q) = .ok (kd, n, v) := by
      refine tokL_congr (drop_ne hk) h3 htk (by rw [hq', List.length_append]; omega) ?_
      right; right; left
      rw [hq', List.getElem?_append_right (by omega), show n - t.text.data.toList.length = 0 by omega]
      rfl
    have hhd := head_congr hn1 htk
    have hbq : bat S q = bat s k := by rw [bat_drop0, hhd, ← bat_drop0]
    have hqs : q + n + 1 ≤ S.size := by
      have := congrArg List.length hq'
      rw [drop_len, List.length_append, List.length_cons] at this
      omega
    have hx : S.extract q (q + n) = t.text := by
      apply bytes_ext
      rw [extract_list, htk, hT]
    have htok : tokAt S q = .ok ⟨kd, t.text, v, q⟩ := by
      rw [tokL_eq, h4]
      show Except.ok _ = _
      rw [hx]
    have hnext := drop_more hq' hTl
    obtain ⟨h5, h6⟩ := lex_gapX hnext
    obtain ⟨ts', h7, h8⟩ := ih r' hr' S (q + n + 4) h6
    refine ⟨[⟨kd, t.text, v, q⟩] ++ ts', ?_, ?_⟩
    · rw [lex_tok (by omega) (by rw [hbq]; exact hb) (by rw [hbq]; exact hr) htok]
      simp only [hn]
      rw [h5, h7]
      rfl
    · have h9 : t.kind = kd ∧ t.num = v := by rw [ht3]; exact ⟨rfl, rfl⟩
      exact .cons ⟨h9.1, rfl, h9.2, trivial⟩ h8

/- What SyntaxBlanks asks of the two texts. -/
theorem parse_blanks {s S : ByteArray} {ts : List Tok} (h : lexAll s = .ok ts) (hS : S.data.toList = joinX ts) (hz : S.size ≤ 16384) :
    ∃ t t' p p' e, parseB s = (t, p, e) ∧ parseB S = (t', p', e) ∧ TR (fun _ _ => True) t t' := by
  obtain ⟨ts', h1, h2⟩ := lex_blanks 0 ts (lexAll_from h).1 S 0 hS
  have h3 : lexAll S = .ok ts' := by unfold lexAll; rw [if_neg (by omega)]; exact h1
  rw [parseB_ok h, parseB_ok h3]
  rcases parse_full h2 (lexAll_end h) with ⟨xs, xs', e1, e2, hv⟩ | ⟨p, p', e, e1, e2, _⟩ | ⟨e1, e2⟩
  · exact ⟨_, _, _, _, _, e1, e2, TR.mk trivial hv⟩
  · exact ⟨_, _, _, _, _, e1, e2, TR.mk trivial .nil⟩
  · exact ⟨_, _, _, _, _, e1, e2, TR.mk trivial .nil⟩
end

end Go.Proofs.YtdkdidgeaalcgaaDoor
