/- Every tree that was read is whole: each node's kids are of the kinds that the table of layer 2 has for it. Nothing of the program is walked here. -/
import Derived.Test.YtnmpfpnldcgbaaaDoorP07
namespace Go.Proofs.YtnmpfpnldcgbaaaDoor
open Go.RowKit

def isStmtK (k : Int) : Prop := 10 ≤ k ∧ k ≤ 20
def isExprK (k : Int) : Prop := k = 5 ∨ (21 ≤ k ∧ k ≤ 28)
def KindsAre (K : Int → Prop) (ts : List T) : Prop := ∀ t ∈ ts, K t.kind
theorem KindsAre.nil {K : Int → Prop} : KindsAre K [] := by intro t h; simp at h
theorem KindsAre.cons {K : Int → Prop} {t : T} {ts : List T} (h : K t.kind) (hs : KindsAre K ts) : KindsAre K (t :: ts) := by
  intro u hu
  rcases List.mem_cons.1 hu with rfl | hu
  · exact h
  · exact hs u hu

inductive Fit : Int → List T → Prop
  | unit {k : Int} {ks : List T} : k = 0 → KindsAre (fun x => x = 1 ∨ x = 6) ks → Fit k ks
  | type {k : Int} {a : T} {ys zs : List T} : k = 1 → a.kind = 2 → KindsAre (· = 3) ys → KindsAre (· = 4) zs → Fit k (a :: (ys ++ zs))
  | none {k : Int} : k = 2 ∨ k = 3 ∨ k = 8 ∨ k = 17 → Fit k []
  | one {k : Int} {a : T} : k = 2 ∨ k = 3 ∨ k = 8 ∨ k = 17 → a.kind = 5 → Fit k [a]
  | two {k : Int} {a b : T} : k = 4 ∨ k = 11 ∨ k = 21 ∨ k = 22 → a.kind = 5 → b.kind = 5 → Fit k [a, b]
  | fn {k : Int} {xs : List T} {r b : T} : k = 6 → KindsAre (· = 7) xs → r.kind = 8 → b.kind = 9 → Fit k (xs ++ [r, b])
  | param {k : Int} {a : T} : k = 7 → a.kind = 8 → Fit k [a]
  | block {k : Int} {ks : List T} : k = 9 → KindsAre isStmtK ks → Fit k ks
  | set {k : Int} {a : T} : k = 10 → isExprK a.kind → Fit k [a]
  | cond {k : Int} {a b c d : T} : k = 15 → a.kind = 5 → b.kind = 5 → c.kind = 9 → d.kind = 9 → Fit k [a, b, c, d]
  | loop {k : Int} {a b c : T} : k = 16 → a.kind = 5 → b.kind = 5 → c.kind = 9 → Fit k [a, b, c]
  | call1 {k : Int} {a : T} : k = 20 → a.kind = 28 → Fit k [a]
  | load {k : Int} {a : T} : k = 25 → a.kind = 5 → Fit k [a]
  | call {k : Int} {ks : List T} : k = 19 ∨ k = 28 → KindsAre (· = 5) ks → Fit k ks
  | leaf {k : Int} : k = 5 ∨ k = 12 ∨ k = 13 ∨ k = 14 ∨ k = 18 ∨ k = 23 ∨ k = 24 ∨ k = 26 ∨ k = 27 → Fit k []

mutual
def T.whole : T → Prop
  | .mk k _ _ _ ks => Fit k ks ∧ wholes ks
def wholes : List T → Prop
  | [] => True
  | t :: ts => t.whole ∧ wholes ts
end
theorem whole_mk {k : Int} {s : ByteArray} {n : Int} {p : Nat} {ks : List T} : (T.mk k s n p ks).whole ↔ Fit k ks ∧ wholes ks := by rw [T.whole]
theorem whole_eq {t : T} : t.whole ↔ Fit t.kind t.kids ∧ wholes t.kids := by cases t; rw [T.whole]; exact Iff.rfl
theorem wholes_nil : wholes [] := by rw [wholes]; trivial
theorem wholes_cons {t : T} {ts : List T} : wholes (t :: ts) ↔ t.whole ∧ wholes ts := by rw [wholes]
theorem wholes_one {t : T} (h : t.whole) : wholes [t] := wholes_cons.2 ⟨h, wholes_nil⟩
theorem wholes_two {t u : T} (h : t.whole) (h' : u.whole) : wholes [t, u] := wholes_cons.2 ⟨h, wholes_one h'⟩
theorem wholes_append : ∀ {a b : List T}, wholes a → wholes b → wholes (a ++ b)
  | [], _, _, h => h
  | t :: ts, b, h, h' => by rw [wholes_cons] at h; exact wholes_cons.2 ⟨h.1, wholes_append h.2 h'⟩
theorem wholes_mem : ∀ {ks : List T} {t : T}, wholes ks → t ∈ ks → t.whole
  | a :: ks, t, h, hm => by
    rw [wholes_cons] at h
    rcases List.mem_cons.1 hm with rfl | hm
    · exact h.1
    · exact wholes_mem h.2 hm

def W1 (K : Int → Prop) (t : T) (_ : List Tok) : Prop := K t.kind ∧ t.whole
def WL (K : Int → Prop) (ts : List T) (_ : List Tok) : Prop := KindsAre K ts ∧ wholes ts
def Any {α : Type} (_ : α) (_ : List Tok) : Prop := True
theorem anyOk {α : Type} (r : R α) : Ok Any r := fun _ _ _ => trivial
theorem W1.or {K K' : Int → Prop} {r : R T} (h : Ok (W1 K) r) (hk : ∀ k, K k → K' k) : Ok (W1 K') r := h.mono fun _ _ h => ⟨hk _ h.1, h.2⟩

theorem leaf_w {K : Int → Prop} {k : Int} {s : ByteArray} {n : Int} {p : Nat} {l : List Tok} (hf : Fit k []) (hk : K k) : W1 K (.mk k s n p []) l := ⟨hk, whole_mk.2 ⟨hf, wholes_nil⟩⟩
theorem one_w {K : Int → Prop} {k : Int} {s : ByteArray} {n : Int} {p : Nat} {a : T} {l : List Tok} (hf : Fit k [a]) (ha : a.whole) (hk : K k) : W1 K (.mk k s n p [a]) l := ⟨hk, whole_mk.2 ⟨hf, wholes_one ha⟩⟩
theorem row_w {K : Int → Prop} {k : Int} {s : ByteArray} {n : Int} {p : Nat} {ks : List T} {l : List Tok} (hf : Fit k ks) (ha : wholes ks) (hk : K k) : W1 K (.mk k s n p ks) l := ⟨hk, whole_mk.2 ⟨hf, ha⟩⟩
theorem setNum_w {K : Int → Prop} {t : T} (v : Int) {l : List Tok} (h : K t.kind ∧ t.whole) : W1 K (t.setNum v) l := by
  cases t
  exact ⟨h.1, whole_mk.2 (whole_mk.1 h.2)⟩

theorem nameTerm_w (l : List Tok) : Ok (W1 (· = 5)) (nameTermP l) := by
  unfold nameTermP
  exact (anyOk _).bd fun s l1 _ => Ok.ok (leaf_w (.leaf (by omega)) rfl)
theorem numberTerm_w (l : List Tok) : Ok (W1 (· = 5)) (numberTermP l) := by
  unfold numberTermP
  exact Ok.cond (fun _ => (anyOk _).bd fun s l1 _ => Ok.ok (leaf_w (.leaf (by omega)) rfl)) (fun _ => (anyOk _).bd fun s l1 _ => Ok.ok (leaf_w (.leaf (by omega)) rfl))
theorem term_w (l : List Tok) : Ok (W1 (· = 5)) (termP l) := by
  unfold termP
  exact Ok.cond (fun _ => (nameTerm_w l).bd fun n l1 h => Ok.sum (fun _ => Ok.ok h) fun k x _ => (anyOk _).bd fun v l2 _ => Ok.ok (setNum_w _ h)) (fun _ => numberTerm_w l)
theorem listF_w {K : Int → Prop} {item : List Tok → R T} (hi : ∀ l, Ok (W1 K) (item l)) : ∀ (n : Nat) (l : List Tok), Ok (WL K) (listF item n l)
  | 0, l => Ok.err
  | n + 1, l => by
    rw [listF]
    exact Ok.cond (fun _ => (hi _).bd fun a l1 h => (listF_w hi n l1).bd fun xs l2 h2 => Ok.ok ⟨.cons h.1 h2.1, wholes_cons.2 ⟨h.2, h2.2⟩⟩) (fun _ => Ok.ok ⟨.nil, wholes_nil⟩)
theorem list_w {K : Int → Prop} {item : List Tok → R T} (hi : ∀ l, Ok (W1 K) (item l)) (l : List Tok) : Ok (WL K) (listP item l) := by
  unfold listP
  exact (hi l).bd fun a l1 h => (listF_w hi _ l1).bd fun xs l2 h2 => Ok.ok ⟨.cons h.1 h2.1, wholes_cons.2 ⟨h.2, h2.2⟩⟩
theorem parens_w {K : Int → Prop} {item : List Tok → R T} (hi : ∀ l, Ok (W1 K) (item l)) (l : List Tok) : Ok (WL K) (parensP item l) := by
  unfold parensP
  exact (anyOk _).bd fun _ l1 _ => Ok.cond (fun _ => Ok.ok ⟨.nil, wholes_nil⟩) (fun _ => (list_w hi l1).bd fun xs l2 h2 => (anyOk _).bd fun _ l3 _ => Ok.ok h2)
theorem index_w (l : List Tok) : Ok (W1 (· = 5)) (indexP l) := by
  unfold indexP
  exact (anyOk _).bd fun _ l1 _ => (term_w l1).bd fun a l2 h2 => (anyOk _).bd fun _ l3 _ => Ok.ok h2
theorem call_w (n : T) (l : List Tok) : Ok (W1 (· = 28)) (callP n l) := by
  unfold callP
  exact (parens_w term_w l).bd fun xs l1 h => Ok.ok (row_w (.call (.inr rfl) h.1) h.2 rfl)
theorem ref_w (p : Nat) (l : List Tok) : Ok (W1 isExprK) (refP p l) := by
  unfold refP
  exact Ok.cond (fun _ => (anyOk _).bd fun s l1 _ => Ok.ok (leaf_w (.leaf (by omega)) (by unfold isExprK; omega))) (fun _ => (anyOk _).bd fun s l1 _ => Ok.ok (leaf_w (.leaf (by omega)) (by unfold isExprK; omega)))
theorem sum_kind {l : List Tok} {k x : Int} (h : sumP l = some (k, x)) : k = 21 ∨ k = 22 := by
  unfold sumP at h
  cases h1 : isT (hdT l) (bs [43]) with
  | true => rw [h1] at h; simp at h; omega
  | false =>
    rw [h1] at h
    cases h2 : isT (hdT l) (bs [45]) with
    | true => rw [h2] at h; simp at h; omega
    | false => rw [h2] at h; simp at h
theorem nameExpr_w (l : List Tok) : Ok (W1 isExprK) (nameExprP l) := by
  unfold nameExprP
  refine (nameTerm_w l).bd fun n l1 h => Ok.cond (fun _ => (index_w l1).bd fun a l2 h2 => Ok.ok (one_w (.load rfl h2.1) h2.2 (by unfold isExprK; omega))) fun _ => Ok.cond (fun _ => W1.or (call_w n l1) (fun k hk => by unfold isExprK; omega)) fun _ => Ok.sum (fun _ => Ok.ok ⟨.inl h.1, h.2⟩) fun k x hs => Ok.cond (fun _ => (nameTerm_w _).bd fun m l2 h2 => Ok.ok ?_) (fun _ => (anyOk _).bd fun v l2 _ => Ok.ok (setNum_w _ ⟨.inl h.1, h.2⟩))
  have hk := sum_kind hs
  exact row_w (.two (by omega) h.1 h2.1) (wholes_two h.2 h2.2) (by unfold isExprK; omega)
theorem expr_w (l : List Tok) : Ok (W1 isExprK) (exprP l) := by
  unfold exprP
  exact Ok.cond (fun _ => (anyOk _).bd fun v l1 _ => Ok.ok (leaf_w (.leaf (by omega)) (by unfold isExprK; omega))) fun _ => Ok.cond (fun _ => (anyOk _).bd fun s l1 _ => Ok.ok (leaf_w (.leaf (by omega)) (by unfold isExprK; omega))) fun _ => Ok.cond (fun _ => ref_w _ _) fun _ => Ok.cond (fun _ => nameExpr_w l) fun _ => W1.or (numberTerm_w l) (fun k hk => .inl hk)
/- A comparison: two terms. -/
def Cp (k : Int) (t : T) (_ : List Tok) : Prop := ∃ s n p a b, t = .mk k s n p [a, b] ∧ (a.kind = 5 ∧ a.whole) ∧ b.kind = 5 ∧ b.whole
theorem compare_w (k : Int) (p : Nat) (l : List Tok) : Ok (Cp k) (compareP k p l) := by
  unfold compareP
  exact (term_w l).bd fun a l1 h1 => (anyOk _).bd fun c l2 _ => (term_w l2).bd fun b l3 h3 => Ok.ok ⟨_, _, _, a, b, rfl, h1, h3⟩
theorem fact_w (l : List Tok) : Ok (W1 (· = 4)) (factP l) := by
  unfold factP
  exact (compare_w 4 _ l).mono fun t l' ⟨s, n, p, a, b, e, ha, hb⟩ => by subst e; exact row_w (.two (.inl rfl) ha.1 hb.1) (wholes_two ha.2 hb.2) rfl
theorem field_w (l : List Tok) : Ok (W1 (· = 3)) (fieldP l) := by
  unfold fieldP
  exact (anyOk _).bd fun s l1 _ => Ok.cond (fun hc => (nameTerm_w _).bd fun a l2 h2 => (anyOk _).bd fun _ l3 _ => Ok.ok (one_w (.one (by omega) h2.1) h2.2 rfl)) (fun _ => Ok.ok (leaf_w (.none (by omega)) rfl))
theorem sort_w (l : List Tok) : Ok (W1 (· = 2)) (sortP l) := by
  unfold sortP
  exact (anyOk _).bd fun t l1 _ => Ok.cond (fun _ => Ok.ok (leaf_w (.none (by omega)) rfl)) (fun _ => (nameTerm_w l1).bd fun a l2 h2 => Ok.ok (one_w (.one (by omega) h2.1) h2.2 rfl))
theorem valueMode_w (l : List Tok) : Ok (W1 (· = 8)) (valueModeP l) := by
  unfold valueModeP
  exact (anyOk _).bd fun t l1 _ => Ok.cond (fun _ => (nameTerm_w l1).bd fun a l2 h2 => Ok.ok (one_w (.one (by omega) h2.1) h2.2 rfl)) (fun _ => Ok.ok (leaf_w (.none (by omega)) rfl))
theorem mode_w (l : List Tok) : Ok (W1 (· = 8)) (modeP l) := by
  unfold modeP
  exact Ok.cond (fun hc => Ok.cond (fun _ => (nameTerm_w _).bd fun a l2 h2 => Ok.ok (one_w (.one (by omega) h2.1) h2.2 rfl)) (fun _ => (nameTerm_w _).bd fun a l2 h2 => Ok.ok (one_w (.one (by omega) h2.1) h2.2 rfl))) (fun _ => valueMode_w l)
theorem param_w (l : List Tok) : Ok (W1 (· = 7)) (paramP l) := by
  unfold paramP
  exact (anyOk _).bd fun s l1 _ => (anyOk _).bd fun _ l2 _ => (mode_w l2).bd fun a l3 h3 => Ok.ok (one_w (.param rfl h3.1) h3.2 rfl)
theorem fields_w (l : List Tok) : Ok (WL (· = 3)) (fieldsP l) := by
  unfold fieldsP
  exact Ok.cond (fun _ => (list_w field_w _).bd fun xs l1 h => (anyOk _).bd fun _ l2 _ => Ok.ok h) (fun _ => Ok.ok ⟨.nil, wholes_nil⟩)
theorem facts_w (l : List Tok) : Ok (WL (· = 4)) (factsP l) := by
  unfold factsP
  exact Ok.cond (fun _ => list_w fact_w _) (fun _ => Ok.ok ⟨.nil, wholes_nil⟩)
theorem type_w (p : Nat) (l : List Tok) : Ok (W1 (· = 1)) (typeP p l) := by
  unfold typeP
  exact (anyOk _).bd fun s l1 _ => (sort_w l1).bd fun a l2 h2 => (fields_w l2).bd fun ys l3 h3 => (facts_w l3).bd fun zs l4 h4 => (anyOk _).bd fun _ l5 _ => Ok.ok (row_w (.type rfl h2.1 h3.1 h4.1) (wholes_cons.2 ⟨h2.2, wholes_append h3.2 h4.2⟩) rfl)
theorem lock_w {k : Int} (hk : k = 13 ∨ k = 14) (p : Nat) (l : List Tok) : Ok (W1 isStmtK) (lockP k p l) := by
  unfold lockP
  exact (anyOk _).bd fun s l1 _ => (anyOk _).bd fun _ l2 _ => (anyOk _).bd fun v l3 _ => (anyOk _).bd fun _ l4 _ => Ok.ok (leaf_w (.leaf (by omega)) (by unfold isStmtK; omega))
theorem return_w (p : Nat) (l : List Tok) : Ok (W1 isStmtK) (returnP p l) := by
  unfold returnP
  exact Ok.cond (fun _ => Ok.ok (leaf_w (.none (by omega)) (by unfold isStmtK; omega))) (fun _ => (term_w l).bd fun a l1 h => Ok.ok (one_w (.one (by omega) h.1) h.2 (by unfold isStmtK; omega)))
theorem named_w (l : List Tok) : Ok (W1 isStmtK) (namedP l) := by
  unfold namedP
  exact (anyOk _).bd fun n l1 _ => Ok.cond (fun _ => (call_w n l1).bd fun c l2 h2 => Ok.ok (one_w (.call1 rfl h2.1) h2.2 (by unfold isStmtK; omega))) fun _ => Ok.cond (fun _ => (index_w l1).bd fun i l2 h2 => (anyOk _).bd fun _ l3 _ => (term_w l3).bd fun b l4 h4 => Ok.ok (row_w (.two (by omega) h2.1 h4.1) (wholes_two h2.2 h4.2) (by unfold isStmtK; omega))) fun _ => (anyOk _).bd fun _ l2 _ => (expr_w l2).bd fun x l3 h3 => Ok.ok (one_w (.set rfl h3.1) h3.2 (by unfold isStmtK; omega))
theorem simple_w (l : List Tok) : Ok (W1 isStmtK) (simpleP l) := by
  unfold simpleP
  exact Ok.cond (fun _ => named_w l) fun _ => Ok.cond (fun _ => (anyOk _).bd fun s l1 _ => Ok.ok (leaf_w (.leaf (by omega)) (by unfold isStmtK; omega))) fun _ => Ok.cond (fun _ => lock_w (.inl rfl) _ _) fun _ => Ok.cond (fun _ => lock_w (.inr rfl) _ _) fun _ => Ok.cond (fun hc => return_w _ _) fun _ => Ok.cond (fun hc => Ok.ok (leaf_w (.leaf (by omega)) (by unfold isStmtK; omega))) fun _ => Ok.cond (fun _ => (anyOk _).bd fun s l1 _ => (parens_w term_w l1).bd fun xs l2 h2 => Ok.ok (row_w (.call (.inl rfl) h2.1) h2.2 (by unfold isStmtK; omega))) fun _ => Ok.err
theorem else_w {blk : List Tok → R T} (hb : ∀ l, Ok (W1 (· = 9)) (blk l)) (p : Nat) (l : List Tok) : Ok (W1 (· = 9)) (elseP blk p l) := by
  unfold elseP
  exact Ok.cond (fun _ => hb _) (fun _ => Ok.ok (row_w (.block rfl .nil) wholes_nil rfl))
theorem if_w {blk : List Tok → R T} (hb : ∀ l, Ok (W1 (· = 9)) (blk l)) (p : Nat) (l : List Tok) : Ok (W1 isStmtK) (ifP blk p l) := by
  unfold ifP
  refine (compare_w 15 p l).bd fun n l1 ⟨s, v, q, a, b, e, ha, hb'⟩ => (hb l1).bd fun c l2 h2 => (else_w hb p l2).bd fun d l3 h3 => Ok.ok ?_
  subst e
  exact row_w (.cond rfl ha.1 hb'.1 h2.1 h3.1) (wholes_cons.2 ⟨ha.2, wholes_cons.2 ⟨hb'.2, wholes_two h2.2 h3.2⟩⟩) (by unfold isStmtK; omega)
theorem while_w {blk : List Tok → R T} (hb : ∀ l, Ok (W1 (· = 9)) (blk l)) (p : Nat) (l : List Tok) : Ok (W1 isStmtK) (whileP blk p l) := by
  unfold whileP
  refine (compare_w 16 p l).bd fun n l1 ⟨s, v, q, a, b, e, ha, hb'⟩ => (hb l1).bd fun c l2 h2 => Ok.ok ?_
  subst e
  exact row_w (.loop rfl ha.1 hb'.1 h2.1) (wholes_cons.2 ⟨ha.2, wholes_two hb'.2 h2.2⟩) (by unfold isStmtK; omega)
theorem stmt_w {blk : List Tok → R T} (hb : ∀ l, Ok (W1 (· = 9)) (blk l)) (l : List Tok) : Ok (W1 isStmtK) (stmtP blk l) := by
  unfold stmtP
  exact Ok.cond (fun _ => if_w hb _ _) fun _ => Ok.cond (fun _ => while_w hb _ _) fun _ => (simple_w l).bd fun n l1 h1 => (anyOk _).bd fun _ l2 _ => Ok.ok h1
theorem stmtsF_w {item : List Tok → R T} (hi : ∀ l, Ok (W1 isStmtK) (item l)) : ∀ (n : Nat) (l : List Tok), Ok (WL isStmtK) (stmtsF item n l)
  | 0, l => Ok.err
  | n + 1, l => by
    rw [stmtsF]
    exact Ok.cond (fun _ => Ok.ok ⟨.nil, wholes_nil⟩) (fun _ => (hi _).bd fun a l1 h => (stmtsF_w hi n l1).bd fun xs l2 h2 => Ok.ok ⟨.cons h.1 h2.1, wholes_cons.2 ⟨h.2, h2.2⟩⟩)
theorem block_w : ∀ (n : Nat) (l : List Tok), Ok (W1 (· = 9)) (blockP n l)
  | 0, l => by
    rw [blockP]
    exact (anyOk _).bd fun _ _ _ => Ok.err
  | n + 1, l => by
    rw [blockP]
    exact (anyOk _).bd fun t l1 _ => (stmtsF_w (stmt_w (block_w n)) _ l1).bd fun xs l2 h => Ok.ok (row_w (.block rfl h.1) h.2 rfl)
theorem result_w (l : List Tok) : Ok (W1 (· = 8)) (resultP l) := by
  unfold resultP
  exact Ok.cond (fun _ => valueMode_w _) (fun _ => Ok.ok (leaf_w (.none (by omega)) rfl))
theorem fn_w (p : Nat) (l : List Tok) : Ok (W1 (· = 6)) (fnP p l) := by
  unfold fnP
  exact (anyOk _).bd fun s l1 _ => (parens_w param_w l1).bd fun xs l2 h2 => (result_w l2).bd fun r l3 h3 => (block_w 8 l3).bd fun b l4 h4 => Ok.ok (row_w (.fn rfl h2.1 h3.1 h4.1) (wholes_append h2.2 (wholes_two h3.2 h4.2)) rfl)
theorem decl_w (l : List Tok) : Ok (W1 (fun x => x = 1 ∨ x = 6)) (declP l) := by
  unfold declP
  exact (anyOk _).bd fun t l1 _ => Ok.cond (fun _ => W1.or (type_w _ _) fun _ h => .inl h) (fun _ => W1.or (fn_w _ _) fun _ h => .inr h)
theorem unitF_w : ∀ (n : Nat) (l : List Tok), Ok (WL (fun x => x = 1 ∨ x = 6)) (unitF n l)
  | 0, l => Ok.err
  | n + 1, l => by
    rw [unitF]
    exact Ok.cond (fun _ => Ok.ok ⟨.nil, wholes_nil⟩) (fun _ => (decl_w _).bd fun a l1 h => (unitF_w n l1).bd fun xs l2 h2 => Ok.ok ⟨.cons h.1 h2.1, wholes_cons.2 ⟨h.2, h2.2⟩⟩)
theorem unit_w (l : List Tok) : Ok (W1 (· = 0)) (unitP l) := by
  unfold unitP
  exact (unitF_w _ l).bd fun xs l1 h => Ok.ok (row_w (.unit rfl h.1) h.2 rfl)
theorem zero_whole : zeroT.whole := whole_mk.2 ⟨.unit rfl .nil, wholes_nil⟩
theorem parseToks_whole (l : List Tok) : (parseToks l).1.kind = 0 ∧ (parseToks l).1.whole := by
  unfold parseToks
  cases hu : unitP l with
  | error q => exact ⟨rfl, zero_whole⟩
  | ok q =>
    have h := unit_w l q.1 q.2 hu
    show ((if 4096 < q.1.size then (zeroT, 0, 22) else (q.1, 0, 0)) : T × Nat × Int).1.kind = 0 ∧ T.whole ((if 4096 < q.1.size then (zeroT, 0, 22) else (q.1, 0, 0)) : T × Nat × Int).1
    split
    · exact ⟨rfl, zero_whole⟩
    · exact h
theorem parse_whole (s : ByteArray) : (parseB s).1.kind = 0 ∧ (parseB s).1.whole := by
  unfold parseB
  cases lexAll s with
  | error q => exact ⟨rfl, zero_whole⟩
  | ok ts => exact parseToks_whole ts

end Go.Proofs.YtnmpfpnldcgbaaaDoor
