/- What every tree that was read keeps to: its kinds, its names and its numbers. Nothing of the program is walked here. The tokens that lex makes: a NAME is one by the rule of IsName, a number is within its bounds; so every tree that Parse answers is good. Nothing of the program is walked here. A region that draws its order, all of whose operations leave a condition S as it is: where one operation alone may come up, it is walked. Nothing of the program is walked here. A region that draws its order, where two or three operations may come up. Nothing of the program is walked here. From the walk of a law of two arguments (two texts; a text and a number) to what its row asks of a call. -/
import Derived.Test.YtdkdidgeaalcgaaDoorP03
import Derived.Test.YtdkdidgeaalcgaaDoorP01
import Derived.Test.YtdkdidgeaalcgaaDoorP18
import Derived.Test.YtdkdidgeaalcgaaDoorP05
import Derived.Test.YtdkdidgeaalcgaaDoorP04
namespace Go.Proofs.YtdkdidgeaalcgaaDoor
section
open Go.RowKit

/- A node by itself, as the law asks it. -/
def textB (k : Int) (s : ByteArray) : Bool :=
  bif k == 1 || k == 3 || k == 6 || k == 7 || k == 10 || k == 11 || k == 12 || k == 13 || k == 14 || k == 19 || k == 24 || k == 25 || k == 26 || k == 27 || k == 28 then isNameB s
  else bif k == 5 then s.toList == [] || isNameB s
  else bif k == 4 || k == 15 || k == 16 then s.toList == [60] || (s.toList == [60, 61] || s.toList == [61, 61])
  else true
def numB (n : Int) : Bool := decide (n ≤ 1099511627776) && decide (-1099511627776 ≤ n)
def nodeB (k : Int) (s : ByteArray) (n : Int) : Bool := (decide (0 ≤ k) && decide (k ≤ 28)) && (numB n && textB k s)
mutual
def T.good : T → Bool
  | .mk k s n _ ks => nodeB k s n && goods ks
def goods : List T → Bool
  | [] => true
  | t :: ts => t.good && goods ts
end
theorem good_mk (k : Int) (s : ByteArray) (n : Int) (p : Nat) (ks : List T) : (T.mk k s n p ks).good = (nodeB k s n && goods ks) := by rw [T.good]
theorem goods_nil : goods [] = true := by rw [goods]
theorem goods_cons (t : T) (ts : List T) : goods (t :: ts) = (t.good && goods ts) := by rw [goods]
theorem goods_append : ∀ a b : List T, goods (a ++ b) = (goods a && goods b)
  | [], b => by simp [goods_nil]
  | t :: ts, b => by rw [List.cons_append, goods_cons, goods_cons, goods_append ts b, Bool.and_assoc]
theorem good_setNum {v : Int} {t : T} (h : t.good = true) (hv : numB v = true) : (t.setNum v).good = true := by
  cases t
  simp only [T.setNum, good_mk, nodeB, Bool.and_eq_true] at *
  exact ⟨⟨h.1.1, hv, h.1.2.2⟩, h.2⟩
theorem good_snoc {t b : T} (h : t.good = true) (hb : b.good = true) : (t.snoc b).good = true := by
  cases t
  simp only [T.snoc, good_mk, goods_append, goods_cons, goods_nil, Bool.and_eq_true, Bool.and_true] at *
  exact ⟨h.1, h.2, hb⟩
theorem num0 : numB 0 = true := by decide
theorem node_name {k : Int} {s : ByteArray} {n : Int} (hk : (k == 1 || k == 3 || k == 6 || k == 7 || k == 10 || k == 11 || k == 12 || k == 13 || k == 14 || k == 19 || k == 24 || k == 25 || k == 26 || k == 27 || k == 28) = true) (hs : isNameB s = true) (hn : numB n = true) : nodeB k s n = true := by
  have h1 : textB k s = true := by unfold textB; rw [hk]; exact hs
  have h2 : (decide (0 ≤ k) && decide (k ≤ 28)) = true := by
    simp only [Bool.or_eq_true, beq_iff_eq] at hk
    simp only [Bool.and_eq_true, decide_eq_true_eq]
    omega
  unfold nodeB
  rw [h1, h2, hn]; rfl

/- The tokens: a NAME is one, a number is within its bounds. -/
def TG (l : List Tok) : Prop := ∀ t ∈ l, (t.kind = 1 → isNameB t.text = true) ∧ t.num ≤ 1099511627776
theorem TG.tail {l : List Tok} (h : TG l) : TG l.tail := fun t ht => h t (List.mem_of_mem_tail ht)
theorem TG.hd {l : List Tok} (h : TG l) : ((hdT l).kind = 1 → isNameB (hdT l).text = true) ∧ (hdT l).num ≤ 1099511627776 := by
  cases l with
  | nil => simp [hdT, zeroTok]
  | cons t r => exact h t (by simp)
def Tk {α : Type} (_ : α) (l' : List Tok) : Prop := TG l'
def Nm (s : ByteArray) (l' : List Tok) : Prop := isNameB s = true ∧ TG l'
def Nu (v : Int) (l' : List Tok) : Prop := (0 ≤ v ∧ v ≤ 1099511627776) ∧ TG l'
def Gd (t : T) (l' : List Tok) : Prop := t.good = true ∧ TG l'
def GdL (ts : List T) (l' : List Tok) : Prop := goods ts = true ∧ TG l'
def Gn (t : T) (l' : List Tok) : Prop := (isNameB t.text = true ∧ t.good = true) ∧ TG l'

theorem expect_g {ss : List ByteArray} {l : List Tok} (h : TG l) : Ok (fun t l' => ss.any (isT t) = true ∧ TG l') (expectP ss l) := by
  unfold expectP
  exact Ok.cond (fun hc => Ok.ok ⟨hc, h.tail⟩) fun _ => Ok.err
theorem name_g {l : List Tok} (h : TG l) : Ok Nm (nameP l) := by
  unfold nameP kindP
  refine Ok.bd (G := Nm ∘ Tok.text) (Ok.cond (fun hc => Ok.ok ⟨h.hd.1 (beq_iff_eq.1 hc), h.tail⟩) fun _ => Ok.err) fun _ _ h => Ok.ok h
theorem number_g {l : List Tok} (h : TG l) : Ok Nu (numberP l) := by
  unfold numberP kindP
  refine Ok.bd (G := fun t l' => Nu (t.num : Int) l') (Ok.cond (fun hc => Ok.ok ⟨⟨by omega, by have := h.hd.2; omega⟩, h.tail⟩) fun _ => Ok.err) fun _ _ h => Ok.ok h
theorem num_of {v : Int} (h : 0 ≤ v ∧ v ≤ 1099511627776) : numB v = true := by unfold numB; simp; omega
theorem num_neg {v : Int} (h : 0 ≤ v ∧ v ≤ 1099511627776) : numB (-v) = true := by unfold numB; simp; omega
theorem good_leaf {k : Int} {s : ByteArray} {n : Int} {p : Nat} (h : nodeB k s n = true) : (T.mk k s n p []).good = true := by rw [good_mk, goods_nil, h]; rfl
theorem good_one {k : Int} {s : ByteArray} {n : Int} {p : Nat} {a : T} (h : nodeB k s n = true) (ha : a.good = true) : (T.mk k s n p [a]).good = true := by rw [good_mk, goods_cons, goods_nil, h, ha]; rfl
theorem good_two {k : Int} {s : ByteArray} {n : Int} {p : Nat} {a b : T} (h : nodeB k s n = true) (ha : a.good = true) (hb : b.good = true) : (T.mk k s n p [a, b]).good = true := by rw [good_mk, goods_cons, goods_cons, goods_nil, h, ha, hb]; rfl
theorem good_row {k : Int} {s : ByteArray} {n : Int} {p : Nat} {ks : List T} (h : nodeB k s n = true) (ha : goods ks = true) : (T.mk k s n p ks).good = true := by rw [good_mk, h, ha]; rfl
theorem e0_nil : (e0.toList == []) = true := by rw [ByteArray.toList_eq]; rfl
theorem node5 {n : Int} (hn : numB n = true) : nodeB 5 e0 n = true := by
  have h1 : textB 5 e0 = true := by show (e0.toList == [] || isNameB e0) = true; rw [e0_nil]; rfl
  unfold nodeB; rw [h1, hn]; rfl
theorem node5n {s : ByteArray} {n : Int} (hs : isNameB s = true) (hn : numB n = true) : nodeB 5 s n = true := by
  have h1 : textB 5 s = true := by show (s.toList == [] || isNameB s) = true; rw [hs, Bool.or_true]
  unfold nodeB; rw [h1, hn]; rfl
theorem node_free {k : Int} {s : ByteArray} {n : Int} (h1 : textB k s = true) (h2 : (decide (0 ≤ k) && decide (k ≤ 28)) = true) (hn : numB n = true) : nodeB k s n = true := by unfold nodeB; rw [h1, h2, hn]; rfl
theorem nameTerm_g {l : List Tok} (h : TG l) : Ok Gn (nameTermP l) := by
  unfold nameTermP
  exact (name_g h).bd fun s l1 h1 => Ok.ok ⟨⟨h1.1, good_leaf (node5n h1.1 num0)⟩, h1.2⟩
theorem nameTerm_gd {l : List Tok} (h : TG l) : Ok Gd (nameTermP l) := (nameTerm_g h).mono fun _ _ h => ⟨h.1.2, h.2⟩
theorem numberTerm_g {l : List Tok} (h : TG l) : Ok Gd (numberTermP l) := by
  unfold numberTermP
  exact Ok.cond (fun _ => (number_g h.tail).bd fun n l1 h1 => Ok.ok ⟨good_leaf (node5 (num_neg h1.1)), h1.2⟩) (fun _ => (number_g h).bd fun n l1 h1 => Ok.ok ⟨good_leaf (node5 (num_of h1.1)), h1.2⟩)
theorem sum_g {l : List Tok} {k x : Int} (h : sumP l = some (k, x)) : (k = 21 ∧ x = 1) ∨ (k = 22 ∧ x = -1) := by
  unfold sumP at h
  cases h1 : isT (hdT l) (bs [43]) with
  | true => rw [h1] at h; cases h; exact .inl ⟨rfl, rfl⟩
  | false =>
    rw [h1] at h
    cases h2 : isT (hdT l) (bs [45]) with
    | true => rw [h2] at h; cases h; exact .inr ⟨rfl, rfl⟩
    | false => rw [h2] at h; cases h
theorem sum_num {l : List Tok} {k x v : Int} (h : sumP l = some (k, x)) (hv : 0 ≤ v ∧ v ≤ 1099511627776) : numB (x * v) = true := by
  rcases sum_g h with ⟨_, rfl⟩ | ⟨_, rfl⟩
  · rw [Int.one_mul]; exact num_of hv
  · rw [Int.neg_one_mul]; exact num_neg hv
theorem sum_node {l : List Tok} {k x : Int} (h : sumP l = some (k, x)) : nodeB k e0 0 = true := by
  rcases sum_g h with ⟨rfl, _⟩ | ⟨rfl, _⟩ <;> rfl
theorem term_g {l : List Tok} (h : TG l) : Ok Gd (termP l) := by
  unfold termP
  exact Ok.cond (fun _ => (nameTerm_g h).bd fun n l1 h1 => Ok.sum (fun _ => Ok.ok ⟨h1.1.2, h1.2⟩) fun k x hs => (number_g h1.2.tail).bd fun v l2 h2 => Ok.ok ⟨good_setNum h1.1.2 (sum_num hs h2.1), h2.2⟩) (fun _ => numberTerm_g h)
theorem listF_g {item : List Tok → R T} (hi : ∀ {l}, TG l → Ok Gd (item l)) : ∀ (n : Nat) {l : List Tok}, TG l → Ok GdL (listF item n l)
  | 0, l, _ => Ok.err
  | n + 1, l, h => by
    rw [listF]
    exact Ok.cond (fun _ => (hi h.tail).bd fun a l1 h1 => (listF_g hi n h1.2).bd fun xs l2 h2 => Ok.ok ⟨by rw [goods_cons, h1.1, h2.1]; rfl, h2.2⟩) (fun _ => Ok.ok ⟨goods_nil, h⟩)
theorem list_g {item : List Tok → R T} (hi : ∀ {l}, TG l → Ok Gd (item l)) {l : List Tok} (h : TG l) : Ok GdL (listP item l) := by
  unfold listP
  exact (hi h).bd fun a l1 h1 => (listF_g hi _ h1.2).bd fun xs l2 h2 => Ok.ok ⟨by rw [goods_cons, h1.1, h2.1]; rfl, h2.2⟩
theorem parens_g {item : List Tok → R T} (hi : ∀ {l}, TG l → Ok Gd (item l)) {l : List Tok} (h : TG l) : Ok GdL (parensP item l) := by
  unfold parensP
  exact (expect_g h).bd fun _ l1 h1 => Ok.cond (fun _ => Ok.ok ⟨goods_nil, h1.2.tail⟩) (fun _ => (list_g hi h1.2).bd fun xs l2 h2 => (expect_g h2.2).bd fun _ l3 h3 => Ok.ok ⟨h2.1, h3.2⟩)
theorem index_g {l : List Tok} (h : TG l) : Ok Gd (indexP l) := by
  unfold indexP
  exact (expect_g h).bd fun _ l1 h1 => (term_g h1.2).bd fun a l2 h2 => (expect_g h2.2).bd fun _ l3 h3 => Ok.ok ⟨h2.1, h3.2⟩
theorem call_g {n : T} (hn : isNameB n.text = true) {l : List Tok} (h : TG l) : Ok Gd (callP n l) := by
  unfold callP
  exact (parens_g term_g h).bd fun xs l1 h1 => Ok.ok ⟨good_row (node_name rfl hn num0) h1.1, h1.2⟩
theorem ref_g {p : Nat} {l : List Tok} (h : TG l) : Ok Gd (refP p l) := by
  unfold refP
  exact Ok.cond (fun _ => (name_g h.tail).bd fun s l1 h1 => Ok.ok ⟨good_leaf (node_name rfl h1.1 num0), h1.2⟩) (fun _ => (name_g h).bd fun s l1 h1 => Ok.ok ⟨good_leaf (node_name rfl h1.1 num0), h1.2⟩)
theorem nameExpr_g {l : List Tok} (h : TG l) : Ok Gd (nameExprP l) := by
  unfold nameExprP
  exact (nameTerm_g h).bd fun n l1 h1 => Ok.cond (fun _ => (index_g h1.2).bd fun a l2 h2 => Ok.ok ⟨good_one (node_name rfl h1.1.1 num0) h2.1, h2.2⟩) fun _ => Ok.cond (fun _ => call_g h1.1.1 h1.2) fun _ => Ok.sum (fun _ => Ok.ok ⟨h1.1.2, h1.2⟩) fun k x hs => Ok.cond (fun _ => (nameTerm_gd h1.2.tail).bd fun m l2 h2 => Ok.ok ⟨good_two (sum_node hs) h1.1.2 h2.1, h2.2⟩) (fun _ => (number_g h1.2.tail).bd fun v l2 h2 => Ok.ok ⟨good_setNum h1.1.2 (sum_num hs h2.1), h2.2⟩)
theorem expr_g {l : List Tok} (h : TG l) : Ok Gd (exprP l) := by
  unfold exprP
  exact Ok.cond (fun _ => (number_g h.tail).bd fun v l1 h1 => Ok.ok ⟨good_leaf (node_free rfl rfl (num_of h1.1)), h1.2⟩) fun _ => Ok.cond (fun _ => (name_g h.tail).bd fun s l1 h1 => Ok.ok ⟨good_leaf (node_name rfl h1.1 num0), h1.2⟩) fun _ => Ok.cond (fun _ => ref_g h.tail) fun _ => Ok.cond (fun _ => nameExpr_g h) fun _ => numberTerm_g h
theorem compare_g {k : Int} (hk : k = 4 ∨ k = 15 ∨ k = 16) {p : Nat} {l : List Tok} (h : TG l) : Ok Gd (compareP k p l) := by
  unfold compareP
  refine (term_g h).bd fun a l1 h1 => (expect_g h1.2).bd fun c l2 h2 => (term_g h2.2).bd fun b l3 h3 => Ok.ok ⟨good_two ?_ h1.1 h3.1, h3.2⟩
  have h4 : (c.text.toList == [60] || (c.text.toList == [60, 61] || c.text.toList == [61, 61])) = true := by
    have := h2.1
    simp only [List.any_cons, List.any_nil, Bool.or_false, isT, bs, ByteArray.toList_eq] at this
    rw [ByteArray.toList_eq]
    exact this
  rcases hk with rfl | rfl | rfl
  · exact node_free h4 rfl num0
  · exact node_free h4 rfl num0
  · exact node_free h4 rfl num0
theorem fact_g {l : List Tok} (h : TG l) : Ok Gd (factP l) := by unfold factP; exact compare_g (.inl rfl) h
theorem field_g {l : List Tok} (h : TG l) : Ok Gd (fieldP l) := by
  unfold fieldP
  exact (name_g h).bd fun s l1 h1 => Ok.cond (fun _ => (nameTerm_gd h1.2.tail).bd fun a l2 h2 => (expect_g h2.2).bd fun _ l3 h3 => Ok.ok ⟨good_one (node_name rfl h1.1 num0) h2.1, h3.2⟩) (fun _ => Ok.ok ⟨good_leaf (node_name rfl h1.1 num0), h1.2⟩)
theorem sort_g {l : List Tok} (h : TG l) : Ok Gd (sortP l) := by
  unfold sortP
  exact (expect_g h).bd fun t l1 h1 => Ok.cond (fun _ => Ok.ok ⟨good_leaf (node_free rfl rfl num0), h1.2⟩) (fun _ => (nameTerm_gd h1.2).bd fun a l2 h2 => Ok.ok ⟨good_one (node_free rfl rfl num0) h2.1, h2.2⟩)
theorem valueMode_g {l : List Tok} (h : TG l) : Ok Gd (valueModeP l) := by
  unfold valueModeP
  exact (expect_g h).bd fun t l1 h1 => Ok.cond (fun _ => (nameTerm_gd h1.2).bd fun a l2 h2 => Ok.ok ⟨good_one (node_free rfl rfl num0) h2.1, h2.2⟩) (fun _ => Ok.ok ⟨good_leaf (node_free rfl rfl num0), h1.2⟩)
theorem mode_g {l : List Tok} (h : TG l) : Ok Gd (modeP l) := by
  unfold modeP
  exact Ok.cond (fun _ => Ok.cond (fun _ => (nameTerm_gd h.tail.tail).bd fun a l2 h2 => Ok.ok ⟨good_one (node_free rfl rfl num0) h2.1, h2.2⟩) (fun _ => (nameTerm_gd h.tail).bd fun a l2 h2 => Ok.ok ⟨good_one (node_free rfl rfl num0) h2.1, h2.2⟩)) (fun _ => valueMode_g h)
theorem param_g {l : List Tok} (h : TG l) : Ok Gd (paramP l) := by
  unfold paramP
  exact (name_g h).bd fun s l1 h1 => (expect_g h1.2).bd fun _ l2 h2 => (mode_g h2.2).bd fun a l3 h3 => Ok.ok ⟨good_one (node_name rfl h1.1 num0) h3.1, h3.2⟩
theorem fields_g {l : List Tok} (h : TG l) : Ok GdL (fieldsP l) := by
  unfold fieldsP
  exact Ok.cond (fun _ => (list_g field_g h.tail).bd fun xs l1 h1 => (expect_g h1.2).bd fun _ l2 h2 => Ok.ok ⟨h1.1, h2.2⟩) (fun _ => Ok.ok ⟨goods_nil, h⟩)
theorem facts_g {l : List Tok} (h : TG l) : Ok GdL (factsP l) := by
  unfold factsP
  exact Ok.cond (fun _ => list_g fact_g h.tail) (fun _ => Ok.ok ⟨goods_nil, h⟩)
theorem type_g {p : Nat} {l : List Tok} (h : TG l) : Ok Gd (typeP p l) := by
  unfold typeP
  exact (name_g h).bd fun s l1 h1 => (sort_g h1.2).bd fun a l2 h2 => (fields_g h2.2).bd fun ys l3 h3 => (facts_g h3.2).bd fun zs l4 h4 => (expect_g h4.2).bd fun _ l5 h5 => Ok.ok ⟨good_row (node_name rfl h1.1 num0) (by rw [goods_cons, goods_append, h2.1, h3.1, h4.1]; rfl), h5.2⟩
theorem lock_g {k : Int} (hk : k = 13 ∨ k = 14) {p : Nat} {l : List Tok} (h : TG l) : Ok Gd (lockP k p l) := by
  unfold lockP
  exact (name_g h).bd fun s l1 h1 => (expect_g h1.2).bd fun _ l2 h2 => (number_g h2.2).bd fun v l3 h3 => (expect_g h3.2).bd fun _ l4 h4 => Ok.ok ⟨good_leaf (node_name (by rcases hk with rfl | rfl <;> rfl) h1.1 (num_of h3.1)), h4.2⟩
theorem return_g {p : Nat} {l : List Tok} (h : TG l) : Ok Gd (returnP p l) := by
  unfold returnP
  exact Ok.cond (fun _ => Ok.ok ⟨good_leaf (node_free rfl rfl num0), h⟩) (fun _ => (term_g h).bd fun a l1 h1 => Ok.ok ⟨good_one (node_free rfl rfl num0) h1.1, h1.2⟩)
theorem named_g {l : List Tok} (h : TG l) : Ok Gd (namedP l) := by
  unfold namedP
  exact (nameTerm_g h).bd fun n l1 h1 => Ok.cond (fun _ => (call_g h1.1.1 h1.2).bd fun c l2 h2 => Ok.ok ⟨good_one (node_free rfl rfl num0) h2.1, h2.2⟩) fun _ => Ok.cond (fun _ => (index_g h1.2).bd fun i l2 h2 => (expect_g h2.2).bd fun _ l3 h3 => (term_g h3.2).bd fun b l4 h4 => Ok.ok ⟨good_two (node_name rfl h1.1.1 num0) h2.1 h4.1, h4.2⟩) fun _ => (expect_g h1.2).bd fun _ l2 h2 => (expr_g h2.2).bd fun x l3 h3 => Ok.ok ⟨good_one (node_name rfl h1.1.1 num0) h3.1, h3.2⟩
theorem simple_g {l : List Tok} (h : TG l) : Ok Gd (simpleP l) := by
  unfold simpleP
  exact Ok.cond (fun _ => named_g h) fun _ => Ok.cond (fun _ => (name_g h.tail).bd fun s l1 h1 => Ok.ok ⟨good_leaf (node_name rfl h1.1 num0), h1.2⟩) fun _ => Ok.cond (fun _ => lock_g (.inl rfl) h.tail) fun _ => Ok.cond (fun _ => lock_g (.inr rfl) h.tail) fun _ => Ok.cond (fun _ => return_g h.tail) fun _ => Ok.cond (fun _ => Ok.ok ⟨good_leaf (node_free rfl rfl num0), h.tail⟩) fun _ => Ok.cond (fun _ => (name_g h.tail).bd fun s l1 h1 => (parens_g term_g h1.2).bd fun xs l2 h2 => Ok.ok ⟨good_row (node_name rfl h1.1 num0) h2.1, h2.2⟩) fun _ => Ok.err
theorem else_g {blk : List Tok → R T} (hb : ∀ {l}, TG l → Ok Gd (blk l)) {p : Nat} {l : List Tok} (h : TG l) : Ok Gd (elseP blk p l) := by
  unfold elseP
  exact Ok.cond (fun _ => hb h.tail) (fun _ => Ok.ok ⟨good_leaf (node_free rfl rfl num0), h⟩)
theorem if_g {blk : List Tok → R T} (hb : ∀ {l}, TG l → Ok Gd (blk l)) {p : Nat} {l : List Tok} (h : TG l) : Ok Gd (ifP blk p l) := by
  unfold ifP
  exact (compare_g (.inr (.inl rfl)) h).bd fun n l1 h1 => (hb h1.2).bd fun b l2 h2 => (else_g hb h2.2).bd fun c l3 h3 => Ok.ok ⟨good_snoc (good_snoc h1.1 h2.1) h3.1, h3.2⟩
theorem while_g {blk : List Tok → R T} (hb : ∀ {l}, TG l → Ok Gd (blk l)) {p : Nat} {l : List Tok} (h : TG l) : Ok Gd (whileP blk p l) := by
  unfold whileP
  exact (compare_g (.inr (.inr rfl)) h).bd fun n l1 h1 => (hb h1.2).bd fun b l2 h2 => Ok.ok ⟨good_snoc h1.1 h2.1, h2.2⟩
theorem stmt_g {blk : List Tok → R T} (hb : ∀ {l}, TG l → Ok Gd (blk l)) {l : List Tok} (h : TG l) : Ok Gd (stmtP blk l) := by
  unfold stmtP
  exact Ok.cond (fun _ => if_g hb h.tail) fun _ => Ok.cond (fun _ => while_g hb h.tail) fun _ => (simple_g h).bd fun n l1 h1 => (expect_g h1.2).bd fun _ l2 h2 => Ok.ok ⟨h1.1, h2.2⟩
theorem stmtsF_g {item : List Tok → R T} (hi : ∀ {l}, TG l → Ok Gd (item l)) : ∀ (n : Nat) {l : List Tok}, TG l → Ok GdL (stmtsF item n l)
  | 0, l, _ => Ok.err
  | n + 1, l, h => by
    rw [stmtsF]
    exact Ok.cond (fun _ => Ok.ok ⟨goods_nil, h.tail⟩) (fun _ => (hi h).bd fun a l1 h1 => (stmtsF_g hi n h1.2).bd fun xs l2 h2 => Ok.ok ⟨by rw [goods_cons, h1.1, h2.1]; rfl, h2.2⟩)
theorem block_g : ∀ (n : Nat) {l : List Tok}, TG l → Ok Gd (blockP n l)
  | 0, l, h => by rw [blockP]; exact (expect_g h).bd fun _ _ _ => Ok.err
  | n + 1, l, h => by
    rw [blockP]
    exact (expect_g h).bd fun t l1 h1 => (stmtsF_g (stmt_g (block_g n)) _ h1.2).bd fun xs l2 h2 => Ok.ok ⟨good_row (node_free rfl rfl num0) h2.1, h2.2⟩
theorem result_g {l : List Tok} (h : TG l) : Ok Gd (resultP l) := by
  unfold resultP
  exact Ok.cond (fun _ => valueMode_g h.tail) (fun _ => Ok.ok ⟨good_leaf (node_free rfl rfl num0), h⟩)
theorem fn_g {p : Nat} {l : List Tok} (h : TG l) : Ok Gd (fnP p l) := by
  unfold fnP
  exact (name_g h).bd fun s l1 h1 => (parens_g param_g h1.2).bd fun xs l2 h2 => (result_g h2.2).bd fun r l3 h3 => (block_g 8 h3.2).bd fun b l4 h4 => Ok.ok ⟨good_row (node_name rfl h1.1 num0) (by rw [goods_append, goods_cons, goods_cons, goods_nil, h2.1, h3.1, h4.1]; rfl), h4.2⟩
theorem decl_g {l : List Tok} (h : TG l) : Ok Gd (declP l) := by
  unfold declP
  exact (expect_g h).bd fun t l1 h1 => Ok.cond (fun _ => type_g h1.2) (fun _ => fn_g h1.2)
theorem unitF_g : ∀ (n : Nat) {l : List Tok}, TG l → Ok GdL (unitF n l)
  | 0, l, _ => Ok.err
  | n + 1, l, h => by
    rw [unitF]
    exact Ok.cond (fun _ => Ok.ok ⟨goods_nil, h⟩) (fun _ => (decl_g h).bd fun a l1 h1 => (unitF_g n h1.2).bd fun xs l2 h2 => Ok.ok ⟨by rw [goods_cons, h1.1, h2.1]; rfl, h2.2⟩)
theorem unit_g {l l' : List Tok} {t : T} (hl : TG l) (h : unitP l = .ok (t, l')) : t.good = true := by
  have h1 : Ok Gd (unitP l) := by
    unfold unitP
    exact (unitF_g _ hl).bd fun xs l1 h => Ok.ok ⟨good_row (node_free rfl rfl num0) h.1, h.2⟩
  exact (h1 t l' h).1

theorem runLen_self (p : Int → Bool) : ∀ l : List UInt8, runLen p (l.take (runLen p l)) = runLen p l
  | [] => by simp [runLen]
  | b :: r => by
    have ih := runLen_self p r
    by_cases hb : p (b.toNat : Int) = true
    · rw [runLen, if_pos hb, List.take_succ_cons, runLen, if_pos hb, ih]
    · rw [runLen, if_neg hb]; rfl
theorem word_list (s : ByteArray) (k n : Nat) : (s.extract k (k + n)).data.toList = (s.data.toList.drop k).take n := by
  rw [ByteArray.data_extract, Array.toList_extract]
  simp [List.extract]
theorem word_name {s : ByteArray} {k : Nat} {t : Tok} (hk : k < s.size) (hl : isLI ((bat s k).toNat : Int) = true) (h : wordTok s k = .ok t) : t.kind = 1 → isNameB t.text = true := by
  have hz := word_size hk hl h
  unfold wordTok at h
  split at h
  · cases h
  · rename_i h16
    split at h
    · cases h; intro hc; cases hc
    · rename_i hkey
      cases h
      intro _
      have hle := endOf_le isWI s k (by omega)
      have hsz := extract_size' s k (endOf isWI s k) hle
      simp only at hz ⊢
      have hd := drop_at s k hk
      have hlist : (s.extract k (endOf isWI s k)).data.toList = (s.data.toList.drop k).take (runLen isWI (s.data.toList.drop k)) := word_list s k _
      have hrun : endOf isWI (s.extract k (endOf isWI s k)) 0 = (s.extract k (endOf isWI s k)).size := by
        rw [hsz]
        show 0 + runLen isWI ((s.extract k (endOf isWI s k)).data.toList.drop 0) = _
        rw [List.drop_zero, hlist, runLen_self]
        unfold endOf
        omega
      have hat : at0 (s.extract k (endOf isWI s k)) = ((bat s k).toNat : Int) := by
        unfold at0
        rw [hlist, bat_eq s k hk, hd]
        have : 0 < runLen isWI (s.data.toList.drop k) := by
          have h1 := hz.1
          rw [hsz] at h1
          unfold endOf at h1
          omega
        rw [hd] at this
        obtain ⟨m, hm⟩ := Nat.exists_eq_succ_of_ne_zero (Nat.pos_iff_ne_zero.1 this)
        rw [hm, List.take_succ_cons]
        rfl
      unfold isNameB
      rw [hat, hl, hrun]
      have hk2 : isKeyB (s.extract k (endOf isWI s k)) = false := by simpa using hkey
      rw [hk2]
      simp only [Bool.and_true, Bool.not_false, decide_true, Bool.and_eq_true, decide_eq_true_eq]
      exact ⟨hz.1, by omega⟩
theorem tok_name {s : ByteArray} {k : Nat} {t : Tok} (hk : k < s.size) (h : tokAt s k = .ok t) : t.kind = 1 → isNameB t.text = true := by
  have hs : ∀ n, signFrom s k n = .ok t → t.kind ≠ 1 := by
    intro n
    induction n with
    | zero =>
      unfold signFrom signEnd
      split
      · intro h; cases h; simp
      · intro h; cases h
    | succ n ih =>
      unfold signFrom
      split
      · intro h; cases h; simp
      · exact ih
  unfold tokAt at h
  split at h
  · rename_i hl
    exact word_name hk hl h
  · split at h
    · unfold numTok at h
      split at h
      · cases h
      · cases h; intro hc; cases hc
    · intro hc; exact absurd hc (hs 3 h)
theorem lexFrom_names {s : ByteArray} : ∀ k, ∀ ts, lexFrom s k = .ok ts → ∀ t ∈ ts, t.kind = 1 → isNameB t.text = true := by
  apply lex_ind (P := fun k r => ∀ ts, r = .ok ts → ∀ t ∈ ts, t.kind = 1 → isNameB t.text = true)
  · intro k _ ts h t ht
    cases h
    obtain rfl : t = endTok s := by simpa using ht
    intro hc; cases hc
  · intro k _ _ ih; exact ih
  · intro k _ _ ih; exact ih
  · intro k e _ _ _ _ ts h; cases h
  · intro k t hk _ _ ht ih ts h
    cases hr : lexFrom s (k + t.text.size) with
    | error e => rw [hr] at h; cases h
    | ok ts' =>
      rw [hr] at h
      cases h
      intro u hu
      rcases List.mem_cons.1 hu with rfl | hu
      · exact tok_name hk ht
      · exact ih ts' hr u hu
theorem lexAll_TG {s : ByteArray} {ts : List Tok} (h : lexAll s = .ok ts) : TG ts := by
  have hg := (lexAll_good h).2.1
  unfold lexAll at h
  split at h
  · cases h
  · exact fun t ht => ⟨lexFrom_names 0 ts h t ht, (hg t ht).num⟩

theorem zero_good : zeroT.good = true := good_leaf (node_free rfl rfl num0)
/- Every tree that Parse answers is good, and has no more than 4096 nodes. -/
theorem parse_good (s : ByteArray) : (parseB s).1.good = true ∧ (parseB s).1.size ≤ 4096 := by
  have hz : zeroT.good = true ∧ zeroT.size ≤ 4096 := ⟨zero_good, by unfold zeroT; rw [size_mk, sizes_nil]; omega⟩
  unfold parseB
  cases hl : lexAll s with
  | error e => exact hz
  | ok ts =>
    simp only
    unfold parseToks
    cases hu : unitP ts with
    | error e => exact hz
    | ok q =>
      obtain ⟨t, l⟩ := q
      simp only
      by_cases hs : 4096 < t.size
      · rw [if_pos hs]; exact hz
      · rw [if_neg hs]; exact ⟨unit_g (lexAll_TG hl) hu, by simp only; omega⟩
end

section
open Go.RowKit

section
variable {P : Program} {ops : Array Oper} {Q : Exit → Act → World → Prop} {md : Region.Mode} {S : World → Prop}
theorem AnyH.only {i : Nat} {o : Oper} {fuel : Nat} {listed : Array Bool} {a : Act} {w : World} (hr : Region.ready md ops listed = [i]) (ho : ops[i]? = some o) (hw : Region.wanted o (yielded ops a.tmps) = true)
    (h : ∀ K : Act → World → Prop, Shut (∀ a w, S w → wpAnyH P md ops Q S fuel (listed.setIfInBounds i true) a w → K a w) → o.wp P a w K Q) : wpAnyH P md ops Q S (fuel + 1) listed a w := by
  refine ⟨(fun h0 => by rw [hr] at h0; cases h0), fun j hj => ?_⟩
  rw [hr] at hj
  obtain rfl : j = i := by simpa using hj
  refine wpOp_step ho fun K' hK => ?_
  rw [if_pos hw]
  exact h K' fun a w hS hA => hK a w ⟨hS, hA⟩
end
end

section
open Go.RowKit

section
variable {P : Program} {ops : Array Oper} {Q : Exit → Act → World → Prop} {md : Region.Mode} {S : World → Prop}
theorem AnyH.pair {i k : Nat} {o u : Oper} {fuel : Nat} {listed : Array Bool} {a : Act} {w : World} (hr : Region.ready md ops listed = [i, k]) (ho : ops[i]? = some o) (hu : ops[k]? = some u) (hw : Region.wanted o (yielded ops a.tmps) = true) (hv : Region.wanted u (yielded ops a.tmps) = true)
    (h : ∀ K : Act → World → Prop, Shut (∀ a w, S w → wpAnyH P md ops Q S fuel (listed.setIfInBounds i true) a w → K a w) → o.wp P a w K Q)
    (h' : ∀ K : Act → World → Prop, Shut (∀ a w, S w → wpAnyH P md ops Q S fuel (listed.setIfInBounds k true) a w → K a w) → u.wp P a w K Q) : wpAnyH P md ops Q S (fuel + 1) listed a w := by
  refine ⟨(fun h0 => by rw [hr] at h0; cases h0), fun j hj => ?_⟩
  rw [hr] at hj
  have hj2 : j = i ∨ j = k := by simpa using hj
  rcases hj2 with rfl | rfl
  · refine wpOp_step ho fun K' hK => ?_
    rw [if_pos hw]
    exact h K' fun a w hS hA => hK a w ⟨hS, hA⟩
  · refine wpOp_step hu fun K' hK => ?_
    rw [if_pos hv]
    exact h' K' fun a w hS hA => hK a w ⟨hS, hA⟩
theorem AnyH.three {i j k : Nat} {o u v : Oper} {fuel : Nat} {listed : Array Bool} {a : Act} {w : World} (hr : Region.ready md ops listed = [i, j, k]) (ho : ops[i]? = some o) (hu : ops[j]? = some u) (hv : ops[k]? = some v) (hwo : Region.wanted o (yielded ops a.tmps) = true) (hwu : Region.wanted u (yielded ops a.tmps) = true) (hwv : Region.wanted v (yielded ops a.tmps) = true)
    (h : ∀ K : Act → World → Prop, Shut (∀ a w, S w → wpAnyH P md ops Q S fuel (listed.setIfInBounds i true) a w → K a w) → o.wp P a w K Q)
    (h' : ∀ K : Act → World → Prop, Shut (∀ a w, S w → wpAnyH P md ops Q S fuel (listed.setIfInBounds j true) a w → K a w) → u.wp P a w K Q)
    (h'' : ∀ K : Act → World → Prop, Shut (∀ a w, S w → wpAnyH P md ops Q S fuel (listed.setIfInBounds k true) a w → K a w) → v.wp P a w K Q) : wpAnyH P md ops Q S (fuel + 1) listed a w := by
  refine ⟨(fun h0 => by rw [hr] at h0; cases h0), fun q hq => ?_⟩
  rw [hr] at hq
  have hq2 : q = i ∨ q = j ∨ q = k := by simpa using hq
  rcases hq2 with rfl | rfl | rfl
  · refine wpOp_step ho fun K' hK => ?_
    rw [if_pos hwo]
    exact h K' fun a w hS hA => hK a w ⟨hS, hA⟩
  · refine wpOp_step hu fun K' hK => ?_
    rw [if_pos hwu]
    exact h' K' fun a w hS hA => hK a w ⟨hS, hA⟩
  · refine wpOp_step hv fun K' hK => ?_
    rw [if_pos hwv]
    exact h'' K' fun a w hS hA => hK a w ⟨hS, hA⟩
end
end

section
open Go.ChangeShapes Go.WideShapes Go.ChangeAt Go.ChangeMaps Go.RowKit

set_option maxRecDepth 100000 in
theorem texts_contract {H : Type} {enc : TypeId × Value → H} {f : FuncId} {fn : Func} {sp : ChangeSpec} {ts : List TypeId} (hp : fn.params = #[9, 9]) (hr : fn.resultTypes = #[4]) (hvars : sp.vars = [])
    (hfn : ∀ d1 d2 : DataW H, sp.fn H [d1, d2] = { results := [.lit (.bool true)], args := [d1, d2] })
    (walk : ∀ (a b : ByteArray) (w : World), a.size ≤ maxLen → b.size ≤ maxLen → a.size ≤ 140737488351232 → b.size ≤ 140737488351232 → Tabs w → Calls Tryd.prog f #[.string a, .string b] w fun e w' => e = .returned (.bool true) ∧ Below w.heap.size w w')
    (W : World) (base : Nat) (args : Array Value) (ds gs : List (DataW H)) (before : List MemPlace)
    (hval : ∀ (j : Nat) t v, fn.params[j]? = some t → args[j]? = some v → Value.okWide Tryd.prog W .any base t v)
    (hW : DataW.Whole enc Tryd.prog fn.params.toList sp.vars false W args.toList ds gs before) (hreach : (DataW.weightsEach Tryd.prog (fn.params.toList ++ ts) (ds ++ gs)).all (· ≤ reachBytes) = true) (hL : laidMetH Tryd.prog laid3 W) :
    Calls Tryd.prog f args W fun e W' => ∃ v, e = .returned v ∧ sp.post enc Tryd.prog fn false true false false W args v W' := by
  have hW' := hW
  obtain ⟨p, q, hA0, hV, rfl, hfz, hnd⟩ := hW
  rw [hvars] at hV
  have hA : DataW.TrodAll enc Tryd.prog W 0 (fun _ => true) true fn.params.toList args.toList ds p := hA0
  rw [hp] at hA hval hreach
  obtain ⟨v0, vs0, d0, ds0, p0, q0, hargs, rfl, rfl, h0, r0⟩ := trodAll_cons hA
  obtain ⟨v1, vs1, d1, ds1, p1, q1, hargs1, rfl, rfl, h1, r1⟩ := trodAll_cons r0
  obtain ⟨rfl, rfl, rfl⟩ := trodAll_nil r1
  obtain rfl : args = #[v0, v1] := by cases args; simp_all
  obtain ⟨rfl, rfl⟩ := trodVars_none hV
  obtain ⟨a, rfl, rfl, rfl, hsa⟩ := open_string Tryd.underlying9 (hval 0 9 v0 rfl rfl) h0
  obtain ⟨b, rfl, rfl, rfl, hsb⟩ := open_string Tryd.underlying9 (hval 1 9 v1 rfl rfl) h1
  clear hA0
  have hla : a.size ≤ 140737488351232 := by
    have := sized_string hreach (j := 0) (t := 9) (bytes := a.data.toList) rfl rfl
    rw [Array.length_toList] at this
    exact this
  have hlb : b.size ≤ 140737488351232 := by
    have := sized_string hreach (j := 1) (t := 9) (bytes := b.data.toList) rfl rfl
    rw [Array.length_toList] at this
    exact this
  refine (walk a b W hsa hsb hla hlb (tabs_of_laid hL)).mono fun e W' ⟨he, hb⟩ => ⟨_, he, ?_⟩
  refine ⟨_, _, _, [], [], [], hW', ?_, ?_, ?_, hb.frame _, fun h => by cases h⟩
  · rw [List.append_nil, hfn, hr]
    exact trodAll_cons_mk (shut_bool Tryd.underlying4 _) trodAll_mk0
  · rw [List.append_nil, hfn, hp]
    exact trodAll_cons_mk (shut_string Tryd.underlying9 hsa) (trodAll_cons_mk (shut_string Tryd.underlying9 hsb) trodAll_mk0)
  · rw [List.append_nil, hfn, hvars]
    rfl
theorem laid_met_texts (os : Os) : laidMet Tryd.prog laid3 ((laidWorld os).forCall (fun _ _ => 0) ⟨#[], #[.string ⟨#[]⟩, .string ⟨#[]⟩], []⟩).memory :=
  laidMet_of_run' 8 (by kernel_rfl) (by kernel_rfl)

set_option maxRecDepth 100000 in
theorem textInt_contract {H : Type} {enc : TypeId × Value → H} {f : FuncId} {fn : Func} {sp : ChangeSpec} {ts : List TypeId} (hp : fn.params = #[9, 3]) (hr : fn.resultTypes = #[4]) (hvars : sp.vars = [])
    (hfn : ∀ d1 d2 : DataW H, sp.fn H [d1, d2] = { results := [.lit (.bool true)], args := [d1, d2] })
    (walk : ∀ (a : ByteArray) (n : Int) (w : World), a.size ≤ maxLen → a.size ≤ 140737488351232 → (Lit.int .i64 n).wf = true → Tabs w → Calls Tryd.prog f #[.string a, .int .i64 n] w fun e w' => e = .returned (.bool true) ∧ Below w.heap.size w w')
    (W : World) (base : Nat) (args : Array Value) (ds gs : List (DataW H)) (before : List MemPlace)
    (hval : ∀ (j : Nat) t v, fn.params[j]? = some t → args[j]? = some v → Value.okWide Tryd.prog W .any base t v)
    (hW : DataW.Whole enc Tryd.prog fn.params.toList sp.vars false W args.toList ds gs before) (hreach : (DataW.weightsEach Tryd.prog (fn.params.toList ++ ts) (ds ++ gs)).all (· ≤ reachBytes) = true) (hL : laidMetH Tryd.prog laid3 W) :
    Calls Tryd.prog f args W fun e W' => ∃ v, e = .returned v ∧ sp.post enc Tryd.prog fn false true false false W args v W' := by
  have hW' := hW
  obtain ⟨p, q, hA0, hV, rfl, hfz, hnd⟩ := hW
  rw [hvars] at hV
  have hA : DataW.TrodAll enc Tryd.prog W 0 (fun _ => true) true fn.params.toList args.toList ds p := hA0
  rw [hp] at hA hval hreach
  obtain ⟨v0, vs0, d0, ds0, p0, q0, hargs, rfl, rfl, h0, r0⟩ := trodAll_cons hA
  obtain ⟨v1, vs1, d1, ds1, p1, q1, hargs1, rfl, rfl, h1, r1⟩ := trodAll_cons r0
  obtain ⟨rfl, rfl, rfl⟩ := trodAll_nil r1
  obtain rfl : args = #[v0, v1] := by cases args; simp_all
  obtain ⟨rfl, rfl⟩ := trodVars_none hV
  obtain ⟨a, rfl, rfl, rfl, hsa⟩ := open_string Tryd.underlying9 (hval 0 9 v0 rfl rfl) h0
  obtain ⟨n, rfl, rfl, rfl, hn⟩ := open_int Tryd.underlying3 (hval 1 3 v1 rfl rfl) h1
  clear hA0
  have hla : a.size ≤ 140737488351232 := by
    have := sized_string hreach (j := 0) (t := 9) (bytes := a.data.toList) rfl rfl
    rw [Array.length_toList] at this
    exact this
  refine (walk a n W hsa hla hn (tabs_of_laid hL)).mono fun e W' ⟨he, hb⟩ => ⟨_, he, ?_⟩
  refine ⟨_, _, _, [], [], [], hW', ?_, ?_, ?_, hb.frame _, fun h => by cases h⟩
  · rw [List.append_nil, hfn, hr]
    exact trodAll_cons_mk (shut_bool Tryd.underlying4 _) trodAll_mk0
  · rw [List.append_nil, hfn, hp]
    exact trodAll_cons_mk (shut_string Tryd.underlying9 hsa) (trodAll_cons_mk (shut_int Tryd.underlying3 hn) trodAll_mk0)
  · rw [List.append_nil, hfn, hvars]
    rfl
theorem laid_met_textInt (os : Os) : laidMet Tryd.prog laid3 ((laidWorld os).forCall (fun _ _ => 0) ⟨#[], #[.string ⟨#[]⟩, .int .i64 0], []⟩).memory :=
  laidMet_of_run' 8 (by kernel_rfl) (by kernel_rfl)
end

end Go.Proofs.YtdkdidgeaalcgaaDoor
