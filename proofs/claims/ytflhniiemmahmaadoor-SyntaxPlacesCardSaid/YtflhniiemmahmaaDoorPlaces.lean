/- Blanks ahead of a text move all places alike; and in a tree that was read the place of a node is not ahead of that of the node above it, and within the text. Nothing of the program is walked here. In a tree that was read the place of a node is not ahead of that of the node above it, and within the text. Nothing of the program is walked here. -/
import Derived.Test.YtflhniiemmahmaaDoorFault
namespace Go.Proofs.YtflhniiemmahmaaDoor
open Go.RowKit

def padB (n : Nat) (s : ByteArray) : ByteArray := ⟨(List.replicate n (32 : UInt8)).toArray⟩ ++ s
theorem padB_list (n : Nat) (s : ByteArray) : (padB n s).data.toList = List.replicate n 32 ++ s.data.toList := by unfold padB; rw [cat_list]
theorem padB_size (n : Nat) (s : ByteArray) : (padB n s).size = n + s.size := by
  have h : (padB n s).data.toList.length = (padB n s).size := Array.length_toList
  have h1 : s.data.toList.length = s.size := Array.length_toList
  rw [← h, padB_list, List.length_append, List.length_replicate]
  omega
theorem padB_drop (n : Nat) (s : ByteArray) (j : Nat) : (padB n s).data.toList.drop (n + j) = s.data.toList.drop j := by
  rw [padB_list, List.drop_append, List.drop_of_length_le (by simp), List.nil_append, List.length_replicate, show n + j - n = j by omega]
theorem padB_bat (n : Nat) (s : ByteArray) (j : Nat) : bat (padB n s) (n + j) = bat s j := by rw [bat_drop0, padB_drop, ← bat_drop0]

def moreShift (n : Nat) : LexRes → LexRes
  | .ok ts => .ok (ts.map (shiftTok n))
  | .error (k, e) => .error (k + n, e)
theorem moreShift_more (n : Nat) (t : Tok) (r : LexRes) : moreShift n (more [t] r) = more [shiftTok n t] (moreShift n r) := by
  cases r with
  | ok ts => rfl
  | error e => rfl
theorem lex_shift (n : Nat) (s : ByteArray) : ∀ j, lexFrom (padB n s) (n + j) = moreShift n (lexFrom s j) := by
  have hz := padB_size n s
  apply lex_ind (s := s) (P := fun j r => lexFrom (padB n s) (n + j) = moreShift n r)
  · intro k hk
    rw [lex_end (by omega)]
    show Except.ok [endTok (padB n s)] = Except.ok [shiftTok n (endTok s)]
    unfold endTok shiftTok
    rw [hz, Nat.add_comm]
  · intro k hk hb ih
    rw [lex_blank (by omega) (by rw [padB_bat]; exact hb), Nat.add_assoc]
    exact ih
  · intro k hk hb ih
    have hE : endOf isRI (padB n s) (n + k) = n + endOf isRI s k := by
      unfold endOf
      rw [padB_drop, Nat.add_assoc]
    rw [lex_remark (by omega) (by rw [padB_bat]; exact hb), hE]
    exact ih
  · intro k e hk hb hr ht
    have h4 : tokAt (padB n s) (n + k) = .error e := by
      rw [tokL_eq] at ht ⊢
      rw [padB_drop]
      cases hx : tokL (s.data.toList.drop k) with
      | error e' => rw [hx] at ht; exact ht
      | ok x => rw [hx] at ht; cases ht
    rw [lex_err (by omega) (by rw [padB_bat]; exact hb) (by rw [padB_bat]; exact hr) h4]
    show Except.error (n + k, e) = Except.error (k + n, e)
    rw [Nat.add_comm]
  · intro k t hk hb hr ht ih
    obtain ⟨kd, m, v, h3, ht3, hn, hn1, hn2⟩ := tok_three hk ht
    have hx : (padB n s).extract (n + k) (n + k + m) = s.extract k (k + m) := by
      apply bytes_ext
      rw [extract_list, extract_list, padB_drop]
    have htok : tokAt (padB n s) (n + k) = .ok (shiftTok n t) := by
      rw [tokL_eq, padB_drop, h3, ht3]
      show Except.ok _ = Except.ok _
      rw [hx]
      simp [shiftTok]
      omega
    rw [lex_tok (by omega) (by rw [padB_bat]; exact hb) (by rw [padB_bat]; exact hr) htok, moreShift_more]
    have hst : (shiftTok n t).text.size = t.text.size := rfl
    rw [hst, Nat.add_assoc, ih]

theorem lex_pad (n : Nat) (s : ByteArray) : ∀ i, i ≤ n → lexFrom (padB n s) (n - i) = lexFrom (padB n s) n
  | 0, _ => rfl
  | i + 1, h => by
    have hz := padB_size n s
    have hb : bat (padB n s) (n - (i + 1)) = 32 := by
      unfold bat
      rw [padB_list, List.getD_eq_getElem?_getD, List.getElem?_append_left (by simp; omega), List.getElem?_replicate, if_pos (by omega)]
      rfl
    rw [lex_blank (by omega) (by rw [hb]; decide), show n - (i + 1) + 1 = n - i by omega]
    exact lex_pad n s i (by omega)
theorem lexAll_pad (n : Nat) (s : ByteArray) (h : n + s.size ≤ 16384) : lexAll (padB n s) = moreShift n (lexAll s) := by
  have hz := padB_size n s
  unfold lexAll
  rw [if_neg (by omega), if_neg (by omega)]
  have h1 := lex_pad n s n (Nat.le_refl _)
  rw [Nat.sub_self] at h1
  have h2 := lex_shift n s 0
  rw [Nat.add_zero] at h2
  rw [h1, h2]

theorem Al.shift (n : Nat) : ∀ ts : List Tok, Al (fun p q => q = p + n) ts (ts.map (shiftTok n))
  | [] => .nil
  | _ :: ts => .cons ⟨rfl, rfl, rfl, rfl⟩ (Al.shift n ts)

/- What the law asks of the two trees. -/
theorem parse_pad {n : Nat} {s : ByteArray} (h : n + s.size ≤ 16384) :
    ∃ xs xs' p p' e, parseB s = (.mk 0 e0 0 0 xs, p, e) ∧ parseB (padB n s) = (.mk 0 e0 0 0 xs', p', e) ∧ TsR (fun p q => q = p + n) xs xs' ∧ (e = 0 ∨ e = 22 ∨ p' = p + n) := by
  cases hl : lexAll s with
  | error q =>
    obtain ⟨k, c⟩ := q
    have h2 : lexAll (padB n s) = .error (k + n, c) := by rw [lexAll_pad n s h, hl]; rfl
    exact ⟨[], [], k, k + n, c, parseB_err hl, parseB_err h2, .nil, .inr (.inr rfl)⟩
  | ok ts =>
    have h2 : lexAll (padB n s) = .ok (ts.map (shiftTok n)) := by rw [lexAll_pad n s h, hl]; rfl
    rw [parseB_ok hl, parseB_ok h2]
    rcases parse_full (Al.shift n ts) (lexAll_end hl) with ⟨xs, xs', e1, e2, hv⟩ | ⟨p, p', e, e1, e2, hr⟩ | ⟨e1, e2⟩
    · exact ⟨xs, xs', _, _, _, e1, e2, hv, .inl rfl⟩
    · exact ⟨[], [], p, p', e, e1, e2, .nil, .inr (.inr hr)⟩
    · exact ⟨[], [], _, _, _, e1, e2, .nil, .inr (.inl rfl)⟩

/- moved and inside, as Bools. -/
mutual
def movedB (n : Nat) (top : Bool) : T → T → Bool
  | .mk k s m p ks, u => !(k != u.kind) && (s.toList == u.text.toList && (!(m != u.num) && (!(ks.length != u.kids.length) && (!(!top && (u.place != p + n)) && movedsB n ks u.kids))))
def movedsB (n : Nat) : List T → List T → Bool
  | [], _ => true
  | t :: ts, us => match us with
    | [] => false
    | u :: us' => movedB n false t u && movedsB n ts us'
end
mutual
def insideB (lo hi : Nat) : T → Bool
  | .mk _ _ _ p ks => decide (lo ≤ p) && (decide (p ≤ hi) && insidesB p hi ks)
def insidesB (lo hi : Nat) : List T → Bool
  | [] => true
  | t :: ts => insideB lo hi t && insidesB lo hi ts
end
theorem moved_eq (n : Nat) (top : Bool) (t u : T) : movedB n top t u = (!(t.kind != u.kind) && (t.text.toList == u.text.toList && (!(t.num != u.num) && (!(t.kids.length != u.kids.length) && (!(!top && (u.place != t.place + n)) && movedsB n t.kids u.kids))))) := by cases t; rw [movedB]; rfl
theorem moveds_nil (n : Nat) (us : List T) : movedsB n [] us = true := by rw [movedsB]
theorem moveds_cons (n : Nat) (t u : T) (ts us : List T) : movedsB n (t :: ts) (u :: us) = (movedB n false t u && movedsB n ts us) := by rw [movedsB]
theorem inside_eq (lo hi : Nat) (t : T) : insideB lo hi t = (decide (lo ≤ t.place) && (decide (t.place ≤ hi) && insidesB t.place hi t.kids)) := by cases t; rw [insideB]; rfl
theorem insides_nil (lo hi : Nat) : insidesB lo hi [] = true := by rw [insidesB]
theorem insides_cons (lo hi : Nat) (t : T) (ts : List T) : insidesB lo hi (t :: ts) = (insideB lo hi t && insidesB lo hi ts) := by rw [insidesB]
theorem insides_append (lo hi : Nat) : ∀ a b : List T, insidesB lo hi (a ++ b) = (insidesB lo hi a && insidesB lo hi b)
  | [], b => by simp [insides_nil]
  | t :: ts, b => by rw [List.cons_append, insides_cons, insides_cons, insides_append lo hi ts b, Bool.and_assoc]

mutual
theorem TR.moved {n : Nat} : ∀ {t u : T}, TR (fun p q => q = p + n) t u → movedB n false t u = true
  | .mk k s m p ks, u, h => by
    unfold TR at h
    obtain ⟨h1, h2, h3, h4, h5⟩ := h
    rw [movedB, TsR.moveds h5, ← h1, ← h2, ← h3, h4, ← TsR.len h5]
    simp
theorem TsR.moveds {n : Nat} : ∀ {ts us : List T}, TsR (fun p q => q = p + n) ts us → movedsB n ts us = true
  | [], us, h => by rw [movedsB]
  | t :: ts, us, h => by
    unfold TsR at h
    obtain ⟨u, us', rfl, h1, h2⟩ := h
    rw [moveds_cons, TR.moved h1, TsR.moveds h2]
    rfl
end
theorem moved_top {n : Nat} {xs xs' : List T} (h : TsR (fun p q => q = p + n) xs xs') : movedB n true (.mk 0 e0 0 0 xs) (.mk 0 e0 0 0 xs') = true := by
  rw [moved_eq]
  show (!((0 : Int) != 0) && (e0.toList == e0.toList && (!((0 : Int) != 0) && (!(xs.length != xs'.length) && (!(!true && _) && movedsB n xs xs'))))) = true
  rw [TsR.moveds h, ← TsR.len h]
  simp

def Asc : List Tok → Prop
  | [] => True
  | t :: r => (∀ u ∈ r, t.place ≤ u.place) ∧ Asc r
theorem Asc.drop : ∀ {d l : List Tok}, Asc (d ++ l) → Asc l
  | [], _, h => h
  | _ :: _, _, h => Asc.drop h.2
/- Tokens whose places rise, from p on, up to hi; a reader does not come to their end. -/
structure Inn (p hi : Nat) (l : List Tok) : Prop where
  asc : Asc l
  all : ∀ t ∈ l, p ≤ t.place ∧ t.place ≤ hi
  fin : ∃ t ∈ l, ¬ Con t

section
variable {p q hi : Nat} {l : List Tok}
theorem Inn.hd (h : Inn p hi l) : p ≤ (hdT l).place ∧ (hdT l).place ≤ hi := by
  obtain ⟨t, ht, _⟩ := h.fin
  cases l with
  | nil => simp at ht
  | cons u r => exact h.all u (by simp)
theorem Inn.up (h : Inn p hi l) : Inn (hdT l).place hi l := by
  refine ⟨h.asc, fun t ht => ⟨?_, (h.all t ht).2⟩, h.fin⟩
  cases l with
  | nil => simp at ht
  | cons u r =>
    rcases List.mem_cons.1 ht with rfl | ht
    · exact Nat.le_refl _
    · exact h.asc.1 t ht
theorem Inn.down (h : Inn q hi l) (hp : p ≤ q) : Inn p hi l := ⟨h.asc, fun t ht => ⟨Nat.le_trans hp (h.all t ht).1, (h.all t ht).2⟩, h.fin⟩
theorem Inn.suffix {d : List Tok} (h : Inn p hi (d ++ l)) (hd : ∀ t ∈ d, Con t) : Inn p hi l := by
  refine ⟨h.asc.drop, fun t ht => h.all t (List.mem_append_right _ ht), ?_⟩
  obtain ⟨t, ht, hn⟩ := h.fin
  rcases List.mem_append.1 ht with ht | ht
  · exact absurd (hd t ht) hn
  · exact ⟨t, ht, hn⟩
theorem Inn.tail (h : Inn p hi l) (hc : Con (hdT l)) : Inn p hi l.tail := by
  cases l with
  | nil => exact h
  | cons t r => exact Inn.suffix (d := [t]) h (fun u hu => by obtain rfl : u = t := List.mem_singleton.1 hu; exact hc)
theorem Inn.is (h : Inn p hi l) {s : ByteArray} (hc : isT (hdT l) s = true) (hs : 0 < s.size) : Inn p hi l.tail := h.tail (con_is hc hs)
theorem Inn.past {α : Type} {r : R α} (h : Inn p hi l) (hr : Past l r) : Ok (fun _ l' => Inn p hi l') r := by
  intro a l' e
  rw [e] at hr
  obtain ⟨d, hd, hc⟩ := hr
  exact Inn.suffix (hd ▸ h) hc
end

theorem ins_down {p q hi : Nat} {t : T} (h : insideB q hi t = true) (hp : p ≤ q) : insideB p hi t = true := by
  rw [inside_eq, Bool.and_eq_true, decide_eq_true_eq] at h ⊢
  exact ⟨Nat.le_trans hp h.1, h.2⟩
theorem ins_mk {p q hi : Nat} {k : Int} {s : ByteArray} {n : Int} {ks : List T} (h : p ≤ q ∧ q ≤ hi) (hk : insidesB q hi ks = true) : insideB p hi (.mk k s n q ks) = true := by
  rw [insideB, hk]
  simp [h.1, h.2]
theorem ins_nil {p hi : Nat} : insidesB p hi [] = true := insides_nil p hi
theorem ins_cons {p hi : Nat} {t : T} {ts : List T} (h : insideB p hi t = true) (hs : insidesB p hi ts = true) : insidesB p hi (t :: ts) = true := by rw [insides_cons, h, hs]; rfl
theorem ins_one {p hi : Nat} {t : T} (h : insideB p hi t = true) : insidesB p hi [t] = true := ins_cons h ins_nil
theorem ins_two {p hi : Nat} {t u : T} (h : insideB p hi t = true) (h' : insideB p hi u = true) : insidesB p hi [t, u] = true := ins_cons h (ins_one h')
theorem ins_app {p hi : Nat} {a b : List T} (h : insidesB p hi a = true) (h' : insidesB p hi b = true) : insidesB p hi (a ++ b) = true := by rw [insides_append, h, h']; rfl
theorem ins_setNum {p hi : Nat} {t : T} (v : Int) (h : insideB p hi t = true) : insideB p hi (t.setNum v) = true := by cases t; rw [T.setNum]; rw [insideB] at h ⊢; exact h
theorem ins_snoc {p hi : Nat} {t b : T} (h : insideB p hi t = true) (hb : insideB t.place hi b = true) : insideB p hi (t.snoc b) = true := by
  cases t with
  | mk k s n q ks =>
    have hb' : insidesB q hi [b] = true := ins_one hb
    rw [T.snoc]
    rw [insideB] at h ⊢
    rw [insides_append, hb', Bool.and_true]
    exact h

def Gi (p hi : Nat) (t : T) (l' : List Tok) : Prop := insideB p hi t = true ∧ Inn p hi l'
def GiL (p hi : Nat) (ts : List T) (l' : List Tok) : Prop := insidesB p hi ts = true ∧ Inn p hi l'
def Gx {α : Type} (p hi : Nat) (_ : α) (l' : List Tok) : Prop := Inn p hi l'
/- A tree at that very place, without kids. -/
def Gl (q hi : Nat) (t : T) (l' : List Tok) : Prop := (t.place = q ∧ t.kids = []) ∧ Inn q hi l'
theorem Gi.down {p q hi : Nat} {t : T} {l : List Tok} (h : Gi q hi t l) (hp : p ≤ q) : Gi p hi t l := ⟨ins_down h.1 hp, h.2.down hp⟩
theorem Gl.ins {q p hi : Nat} {t : T} {l : List Tok} (h : Gl q hi t l) (hp : p ≤ q ∧ q ≤ hi) : insideB p hi t = true := by
  cases t
  obtain ⟨⟨h1, h2⟩, _⟩ := h
  have h1' : _ = q := h1
  have h2' : _ = [] := h2
  rw [insideB]
  simp only [T.place, T.kids] at h1' h2'
  rw [h1', h2', insides_nil]
  simp [hp.1, hp.2]

section
variable {p hi : Nat} {l : List Tok}
theorem expect_i {ss : List ByteArray} (hs : ∀ s ∈ ss, 0 < s.size) (h : Inn p hi l) : Ok (fun t l' => (p ≤ t.place ∧ t.place ≤ hi) ∧ Inn t.place hi l') (expectP ss l) := by
  unfold expectP
  exact Ok.cond (fun hc => Ok.ok ⟨h.hd, h.up.tail (con_any hc hs)⟩) fun _ => Ok.err
theorem expect_x {ss : List ByteArray} (hs : ∀ s ∈ ss, 0 < s.size) (h : Inn p hi l) : Ok (Gx p hi) (expectP ss l) := h.past (expect_p hs l)
theorem name_x (h : Inn p hi l) : Ok (Gx p hi) (nameP l) := h.past (name_p l)
theorem number_x (h : Inn p hi l) : Ok (Gx p hi) (numberP l) := h.past (number_p l)
theorem nameTerm_l (h : Inn p hi l) : Ok (Gl (hdT l).place hi) (nameTermP l) := by
  unfold nameTermP
  exact (name_x h.up).bd fun s l1 h1 => Ok.ok ⟨⟨rfl, rfl⟩, h1⟩
theorem nameTerm_i (h : Inn p hi l) : Ok (Gi p hi) (nameTermP l) := (nameTerm_l h).mono fun _ _ h1 => ⟨h1.ins h.hd, h1.2.down h.hd.1⟩
theorem numberTerm_i (h : Inn p hi l) : Ok (Gi p hi) (numberTermP l) := by
  unfold numberTermP
  exact Ok.cond (fun hc => (number_x (h.is hc (by decide))).bd fun n l1 h1 => Ok.ok ⟨ins_mk h.hd ins_nil, h1⟩) (fun _ => (number_x h).bd fun n l1 h1 => Ok.ok ⟨ins_mk h.hd ins_nil, h1⟩)
theorem term_i (h : Inn p hi l) : Ok (Gi p hi) (termP l) := by
  unfold termP
  exact Ok.cond (fun _ => (nameTerm_i h).bd fun n l1 h1 => Ok.sum (fun _ => Ok.ok h1) fun k x hs => (number_x (h1.2.tail (con_sum hs))).bd fun v l2 h2 => Ok.ok ⟨ins_setNum _ h1.1, h2⟩) (fun _ => numberTerm_i h)
theorem listF_i {item : List Tok → R T} (hit : ∀ {l}, Inn p hi l → Ok (Gi p hi) (item l)) : ∀ (n : Nat) {l : List Tok}, Inn p hi l → Ok (GiL p hi) (listF item n l)
  | 0, l, _ => Ok.err
  | n + 1, l, h => by
    rw [listF]
    exact Ok.cond (fun hc => (hit (h.is hc (by decide))).bd fun a l1 h1 => (listF_i hit n h1.2).bd fun xs l2 h2 => Ok.ok ⟨ins_cons h1.1 h2.1, h2.2⟩) (fun _ => Ok.ok ⟨ins_nil, h⟩)
theorem list_i {item : List Tok → R T} (hit : ∀ {l}, Inn p hi l → Ok (Gi p hi) (item l)) (h : Inn p hi l) : Ok (GiL p hi) (listP item l) := by
  unfold listP
  exact (hit h).bd fun a l1 h1 => (listF_i hit _ h1.2).bd fun xs l2 h2 => Ok.ok ⟨ins_cons h1.1 h2.1, h2.2⟩
theorem parens_i {item : List Tok → R T} (hit : ∀ {l}, Inn p hi l → Ok (Gi p hi) (item l)) (h : Inn p hi l) : Ok (GiL p hi) (parensP item l) := by
  unfold parensP
  exact (expect_x (by decide) h).bd fun _ l1 h1 => Ok.cond (fun hc => Ok.ok ⟨ins_nil, Inn.is h1 hc (by decide)⟩) (fun _ => (list_i hit h1).bd fun xs l2 h2 => (expect_x (by decide) h2.2).bd fun _ l3 h3 => Ok.ok ⟨h2.1, h3⟩)
theorem index_i (h : Inn p hi l) : Ok (Gi p hi) (indexP l) := by
  unfold indexP
  exact (expect_x (by decide) h).bd fun _ l1 h1 => (term_i h1).bd fun a l2 h2 => (expect_x (by decide) h2.2).bd fun _ l3 h3 => Ok.ok ⟨h2.1, h3⟩
theorem call_i {n : T} (hn : n.place ≤ hi) (h : Inn n.place hi l) : Ok (Gi n.place hi) (callP n l) := by
  unfold callP
  exact (parens_i term_i h).bd fun xs l1 h1 => Ok.ok ⟨ins_mk ⟨Nat.le_refl _, hn⟩ h1.1, h1.2⟩
theorem ref_i {q : Nat} (hq : q ≤ hi) (h : Inn q hi l) : Ok (Gi q hi) (refP q l) := by
  unfold refP
  exact Ok.cond (fun hc => (name_x (h.is hc (by decide))).bd fun s l1 h1 => Ok.ok ⟨ins_mk ⟨Nat.le_refl _, hq⟩ ins_nil, h1⟩) (fun _ => (name_x h).bd fun s l1 h1 => Ok.ok ⟨ins_mk ⟨Nat.le_refl _, hq⟩ ins_nil, h1⟩)
theorem nameExpr_i (h : Inn p hi l) : Ok (Gi p hi) (nameExprP l) := by
  unfold nameExprP
  refine (nameTerm_l h).bd fun n l1 h1 => ?_
  have hq : p ≤ n.place ∧ n.place ≤ hi := by rw [h1.1.1]; exact h.hd
  have h2 : Inn n.place hi l1 := by rw [h1.1.1]; exact h1.2
  have h3 : insideB n.place hi n = true := by have := h1.ins ⟨Nat.le_refl _, h.hd.2⟩; rw [← h1.1.1] at this; exact this
  exact Ok.mono (G := Gi n.place hi) (Ok.cond (fun _ => (index_i h2).bd fun a l2 h4 => Ok.ok ⟨ins_mk ⟨Nat.le_refl _, hq.2⟩ (ins_one h4.1), h4.2⟩) fun _ => Ok.cond (fun _ => call_i hq.2 h2) fun _ => Ok.sum (fun _ => Ok.ok ⟨h3, h2⟩) fun k x hs =>
    Ok.cond (fun _ => (nameTerm_i (h2.tail (con_sum hs))).bd fun m l2 h4 => Ok.ok ⟨ins_mk ⟨Nat.le_refl _, hq.2⟩ (ins_two h3 h4.1), h4.2⟩) (fun _ => (number_x (h2.tail (con_sum hs))).bd fun v l2 h4 => Ok.ok ⟨ins_setNum _ h3, h4⟩)) fun _ _ hg => hg.down hq.1
theorem expr_i (h : Inn p hi l) : Ok (Gi p hi) (exprP l) := by
  unfold exprP
  exact Ok.cond (fun hc => (number_x (h.is hc (by decide))).bd fun v l1 h1 => Ok.ok ⟨ins_mk h.hd ins_nil, h1⟩) fun _ => Ok.cond (fun hc => (name_x (h.is hc (by decide))).bd fun s l1 h1 => Ok.ok ⟨ins_mk h.hd ins_nil, h1⟩) fun _ => Ok.cond (fun hc => (ref_i h.hd.2 (h.up.is hc (by decide))).mono fun _ _ hg => hg.down h.hd.1) fun _ => Ok.cond (fun _ => nameExpr_i h) fun _ => numberTerm_i h
theorem compare_i {k : Int} {q : Nat} (hq : q ≤ hi) (h : Inn q hi l) : Ok (fun t l' => t.place = q ∧ Gi q hi t l') (compareP k q l) := by
  unfold compareP
  exact (term_i h).bd fun a l1 h1 => (expect_x (by decide) h1.2).bd fun c l2 h2 => (term_i h2).bd fun b l3 h3 => Ok.ok ⟨rfl, ins_mk ⟨Nat.le_refl _, hq⟩ (ins_two h1.1 h3.1), h3.2⟩
theorem fact_i (h : Inn p hi l) : Ok (Gi p hi) (factP l) := by unfold factP; exact (compare_i h.hd.2 h.up).mono fun _ _ hg => hg.2.down h.hd.1
theorem field_i (h : Inn p hi l) : Ok (Gi p hi) (fieldP l) := by
  unfold fieldP
  exact Ok.mono (G := Gi (hdT l).place hi) ((name_x h.up).bd fun s l1 h1 => Ok.cond (fun hc => (nameTerm_i (Inn.is h1 hc (by decide))).bd fun a l2 h2 => (expect_x (by decide) h2.2).bd fun _ l3 h3 => Ok.ok ⟨ins_mk ⟨Nat.le_refl _, h.hd.2⟩ (ins_one h2.1), h3⟩) (fun _ => Ok.ok ⟨ins_mk ⟨Nat.le_refl _, h.hd.2⟩ ins_nil, h1⟩)) fun _ _ hg => hg.down h.hd.1
theorem sort_i (h : Inn p hi l) : Ok (Gi p hi) (sortP l) := by
  unfold sortP
  exact (expect_i (by decide) h).bd fun t l1 h1 => Ok.cond (fun _ => Ok.ok ⟨ins_mk h1.1 ins_nil, h1.2.down h1.1.1⟩) (fun _ => (nameTerm_i h1.2).bd fun a l2 h2 => Ok.ok ⟨ins_mk h1.1 (ins_one h2.1), h2.2.down h1.1.1⟩)
theorem valueMode_i (h : Inn p hi l) : Ok (Gi p hi) (valueModeP l) := by
  unfold valueModeP
  exact (expect_i (by decide) h).bd fun t l1 h1 => Ok.cond (fun _ => (nameTerm_i h1.2).bd fun a l2 h2 => Ok.ok ⟨ins_mk h1.1 (ins_one h2.1), h2.2.down h1.1.1⟩) (fun _ => Ok.ok ⟨ins_mk h1.1 ins_nil, h1.2.down h1.1.1⟩)
theorem mode_i (h : Inn p hi l) : Ok (Gi p hi) (modeP l) := by
  unfold modeP
  exact Ok.cond (fun hc => Ok.cond (fun hc2 => (nameTerm_i ((h.up.is hc (by decide)).is hc2 (by decide))).bd fun a l2 h2 => Ok.ok ⟨ins_mk h.hd (ins_one h2.1), h2.2.down h.hd.1⟩) (fun _ => (nameTerm_i (h.up.is hc (by decide))).bd fun a l2 h2 => Ok.ok ⟨ins_mk h.hd (ins_one h2.1), h2.2.down h.hd.1⟩)) (fun _ => valueMode_i h)
theorem param_i (h : Inn p hi l) : Ok (Gi p hi) (paramP l) := by
  unfold paramP
  exact (name_x h.up).bd fun s l1 h1 => (expect_x (by decide) h1).bd fun _ l2 h2 => (mode_i h2).bd fun a l3 h3 => Ok.ok ⟨ins_mk h.hd (ins_one h3.1), h3.2.down h.hd.1⟩
theorem fields_i (h : Inn p hi l) : Ok (GiL p hi) (fieldsP l) := by
  unfold fieldsP
  exact Ok.cond (fun hc => (list_i field_i (h.is hc (by decide))).bd fun xs l1 h1 => (expect_x (by decide) h1.2).bd fun _ l2 h2 => Ok.ok ⟨h1.1, h2⟩) (fun _ => Ok.ok ⟨ins_nil, h⟩)
theorem facts_i (h : Inn p hi l) : Ok (GiL p hi) (factsP l) := by
  unfold factsP
  exact Ok.cond (fun hc => list_i fact_i (h.is hc (by decide))) (fun _ => Ok.ok ⟨ins_nil, h⟩)
theorem type_i {q : Nat} (hq : q ≤ hi) (h : Inn q hi l) : Ok (Gi q hi) (typeP q l) := by
  unfold typeP
  exact (name_x h).bd fun s l1 h1 => (sort_i h1).bd fun a l2 h2 => (fields_i h2.2).bd fun ys l3 h3 => (facts_i h3.2).bd fun zs l4 h4 => (expect_x (by decide) h4.2).bd fun _ l5 h5 => Ok.ok ⟨ins_mk ⟨Nat.le_refl _, hq⟩ (ins_cons h2.1 (ins_app h3.1 h4.1)), h5⟩
theorem lock_i {k : Int} {q : Nat} (hq : q ≤ hi) (h : Inn q hi l) : Ok (Gi q hi) (lockP k q l) := by
  unfold lockP
  exact (name_x h).bd fun s l1 h1 => (expect_x (by decide) h1).bd fun _ l2 h2 => (number_x h2).bd fun v l3 h3 => (expect_x (by decide) h3).bd fun _ l4 h4 => Ok.ok ⟨ins_mk ⟨Nat.le_refl _, hq⟩ ins_nil, h4⟩
theorem return_i {q : Nat} (hq : q ≤ hi) (h : Inn q hi l) : Ok (Gi q hi) (returnP q l) := by
  unfold returnP
  exact Ok.cond (fun _ => Ok.ok ⟨ins_mk ⟨Nat.le_refl _, hq⟩ ins_nil, h⟩) (fun _ => (term_i h).bd fun a l1 h1 => Ok.ok ⟨ins_mk ⟨Nat.le_refl _, hq⟩ (ins_one h1.1), h1.2⟩)
theorem named_i (h : Inn p hi l) : Ok (Gi p hi) (namedP l) := by
  unfold namedP
  refine (nameTerm_l h).bd fun n l1 h1 => ?_
  have hq : p ≤ n.place ∧ n.place ≤ hi := by rw [h1.1.1]; exact h.hd
  have h2 : Inn n.place hi l1 := by rw [h1.1.1]; exact h1.2
  exact Ok.mono (G := Gi n.place hi) (Ok.cond (fun _ => (call_i hq.2 h2).bd fun c l2 h4 => Ok.ok ⟨ins_mk ⟨Nat.le_refl _, hq.2⟩ (ins_one h4.1), h4.2⟩) fun _ => Ok.cond (fun _ => (index_i h2).bd fun i l2 h4 => (expect_x (by decide) h4.2).bd fun _ l3 h5 => (term_i h5).bd fun b l4 h6 => Ok.ok ⟨ins_mk ⟨Nat.le_refl _, hq.2⟩ (ins_two h4.1 h6.1), h6.2⟩) fun _ =>
    (expect_x (by decide) h2).bd fun _ l2 h4 => (expr_i h4).bd fun x l3 h5 => Ok.ok ⟨ins_mk ⟨Nat.le_refl _, hq.2⟩ (ins_one h5.1), h5.2⟩) fun _ _ hg => hg.down hq.1
theorem simple_i (h : Inn p hi l) : Ok (Gi p hi) (simpleP l) := by
  unfold simpleP
  exact Ok.cond (fun _ => named_i h) fun _ => Ok.cond (fun hc => (name_x (h.is hc (by decide))).bd fun s l1 h1 => Ok.ok ⟨ins_mk h.hd ins_nil, h1⟩) fun _ => Ok.cond (fun hc => (lock_i h.hd.2 (h.up.is hc (by decide))).mono fun _ _ hg => hg.down h.hd.1) fun _ => Ok.cond (fun hc => (lock_i h.hd.2 (h.up.is hc (by decide))).mono fun _ _ hg => hg.down h.hd.1) fun _ =>
    Ok.cond (fun hc => (return_i h.hd.2 (h.up.is hc (by decide))).mono fun _ _ hg => hg.down h.hd.1) fun _ => Ok.cond (fun hc => Ok.ok ⟨ins_mk h.hd ins_nil, h.is hc (by decide)⟩) fun _ => Ok.cond (fun hc => (name_x (h.up.is hc (by decide))).bd fun s l1 h1 => (parens_i term_i h1).bd fun xs l2 h2 => Ok.ok ⟨ins_mk h.hd h2.1, h2.2.down h.hd.1⟩) fun _ => Ok.err
theorem else_i {blk : List Tok → R T} (hb : ∀ {p l}, Inn p hi l → Ok (Gi p hi) (blk l)) {q : Nat} (hq : q ≤ hi) (h : Inn q hi l) : Ok (Gi q hi) (elseP blk q l) := by
  unfold elseP
  exact Ok.cond (fun hc => hb (h.is hc (by decide))) (fun _ => Ok.ok ⟨ins_mk ⟨Nat.le_refl _, hq⟩ ins_nil, h⟩)
theorem if_i {blk : List Tok → R T} (hb : ∀ {p l}, Inn p hi l → Ok (Gi p hi) (blk l)) {q : Nat} (hq : q ≤ hi) (h : Inn q hi l) : Ok (Gi q hi) (ifP blk q l) := by
  unfold ifP
  refine (compare_i hq h).bd fun n l1 h1 => (hb h1.2.2).bd fun b l2 h2 => (else_i hb hq h2.2).bd fun c l3 h3 => Ok.ok ⟨ins_snoc (ins_snoc h1.2.1 (by rw [h1.1]; exact h2.1)) ?_, h3.2⟩
  have e : (n.snoc b).place = n.place := by cases n; rfl
  rw [e, h1.1]
  exact h3.1
theorem while_i {blk : List Tok → R T} (hb : ∀ {p l}, Inn p hi l → Ok (Gi p hi) (blk l)) {q : Nat} (hq : q ≤ hi) (h : Inn q hi l) : Ok (Gi q hi) (whileP blk q l) := by
  unfold whileP
  exact (compare_i hq h).bd fun n l1 h1 => (hb h1.2.2).bd fun b l2 h2 => Ok.ok ⟨ins_snoc h1.2.1 (by rw [h1.1]; exact h2.1), h2.2⟩
theorem stmt_i {blk : List Tok → R T} (hb : ∀ {p l}, Inn p hi l → Ok (Gi p hi) (blk l)) (h : Inn p hi l) : Ok (Gi p hi) (stmtP blk l) := by
  unfold stmtP
  exact Ok.cond (fun hc => (if_i hb h.hd.2 (h.up.is hc (by decide))).mono fun _ _ hg => hg.down h.hd.1) fun _ => Ok.cond (fun hc => (while_i hb h.hd.2 (h.up.is hc (by decide))).mono fun _ _ hg => hg.down h.hd.1) fun _ => (simple_i h).bd fun n l1 h1 => (expect_x (by decide) h1.2).bd fun _ l2 h2 => Ok.ok ⟨h1.1, h2⟩
theorem stmtsF_i {item : List Tok → R T} (hit : ∀ {l}, Inn p hi l → Ok (Gi p hi) (item l)) : ∀ (n : Nat) {l : List Tok}, Inn p hi l → Ok (GiL p hi) (stmtsF item n l)
  | 0, l, _ => Ok.err
  | n + 1, l, h => by
    rw [stmtsF]
    exact Ok.cond (fun hc => Ok.ok ⟨ins_nil, h.is hc (by decide)⟩) (fun _ => (hit h).bd fun a l1 h1 => (stmtsF_i hit n h1.2).bd fun xs l2 h2 => Ok.ok ⟨ins_cons h1.1 h2.1, h2.2⟩)
theorem block_i : ∀ (n : Nat) {p : Nat} {l : List Tok}, Inn p hi l → Ok (Gi p hi) (blockP n l)
  | 0, p, l, h => by rw [blockP]; exact (expect_x (by decide) h).bd fun _ _ _ => Ok.err
  | n + 1, p, l, h => by
    rw [blockP]
    exact (expect_i (by decide) h).bd fun t l1 h1 => (stmtsF_i (stmt_i (block_i n)) _ h1.2).bd fun xs l2 h2 => Ok.ok ⟨ins_mk h1.1 h2.1, h2.2.down h1.1.1⟩
theorem result_i (h : Inn p hi l) : Ok (Gi p hi) (resultP l) := by
  unfold resultP
  exact Ok.cond (fun hc => valueMode_i (h.is hc (by decide))) (fun _ => Ok.ok ⟨ins_mk h.hd ins_nil, h⟩)
theorem fn_i {q : Nat} (hq : q ≤ hi) (h : Inn q hi l) : Ok (Gi q hi) (fnP q l) := by
  unfold fnP
  exact (name_x h).bd fun s l1 h1 => (parens_i param_i h1).bd fun xs l2 h2 => (result_i h2.2).bd fun r l3 h3 => (block_i 8 h3.2).bd fun b l4 h4 => Ok.ok ⟨ins_mk ⟨Nat.le_refl _, hq⟩ (ins_app h2.1 (ins_two h3.1 h4.1)), h4.2⟩
theorem decl_i (h : Inn p hi l) : Ok (Gi p hi) (declP l) := by
  unfold declP
  exact (expect_i (by decide) h).bd fun t l1 h1 => Ok.cond (fun _ => (type_i h1.1.2 h1.2).mono fun _ _ hg => hg.down h1.1.1) (fun _ => (fn_i h1.1.2 h1.2).mono fun _ _ hg => hg.down h1.1.1)
theorem unitF_i : ∀ (n : Nat) {l : List Tok}, Inn p hi l → Ok (GiL p hi) (unitF n l)
  | 0, l, _ => Ok.err
  | n + 1, l, h => by
    rw [unitF]
    exact Ok.cond (fun _ => Ok.ok ⟨ins_nil, h⟩) (fun _ => (decl_i h).bd fun a l1 h1 => (unitF_i n h1.2).bd fun xs l2 h2 => Ok.ok ⟨ins_cons h1.1 h2.1, h2.2⟩)
end

theorem lex_asc {s : ByteArray} : ∀ j ts, j ≤ s.size → lexFrom s j = .ok ts → Asc ts := by
  intro j
  apply lex_ind (s := s) (P := fun j r => ∀ ts, j ≤ s.size → r = .ok ts → Asc ts)
  · intro k _ ts _ h
    cases h
    exact ⟨by simp, trivial⟩
  · intro k hk _ ih ts _ h
    exact ih ts (by omega) h
  · intro k hk hb ih ts _ h
    exact ih ts (endOf_le _ _ _ (by omega)) h
  · intro k e _ _ _ _ ts _ h; cases h
  · intro k t hk _ _ ht ih ts _ h
    obtain ⟨r', hr', rfl⟩ := more_ok h
    obtain ⟨kd, n, v, h3, ht3, hn, hn1, hn2⟩ := tok_three hk ht
    have hp : t.place = k := by rw [ht3]
    refine ⟨fun u hu => ?_, ih r' (by omega) hr'⟩
    have := lex_ge _ r' (by omega) hr' u hu
    omega
theorem lexAll_inn {s : ByteArray} {ts : List Tok} (h : lexAll s = .ok ts) : Inn 0 s.size ts :=
  ⟨lex_asc 0 ts (Nat.zero_le _) (lexAll_from h).1, fun t ht => ⟨Nat.zero_le _, (lex_place 0 ts (Nat.zero_le _) (lexAll_from h).1 t ht).1⟩, lexAll_end h⟩

theorem parse_inside (s : ByteArray) : insideB 0 s.size (parseB s).1 = true := by
  have hz : insideB 0 s.size zeroT = true := ins_mk ⟨Nat.le_refl _, Nat.zero_le _⟩ ins_nil
  cases hl : lexAll s with
  | error e => rw [parseB_err hl]; exact hz
  | ok ts =>
    rw [parseB_ok hl]
    unfold parseToks
    cases hu : unitP ts with
    | error e => exact hz
    | ok q =>
      obtain ⟨t, l⟩ := q
      simp only
      by_cases hb : 4096 < t.size
      · rw [if_pos hb]; exact hz
      · rw [if_neg hb]
        have h1 : Ok (Gi 0 s.size) (unitP ts) := by
          unfold unitP
          exact (unitF_i _ (lexAll_inn hl)).bd fun xs l1 h => Ok.ok ⟨ins_mk ⟨Nat.le_refl _, Nat.zero_le _⟩ h.1, h.2⟩
        exact (h1 t l hu).1

end Go.Proofs.YtflhniiemmahmaaDoor
