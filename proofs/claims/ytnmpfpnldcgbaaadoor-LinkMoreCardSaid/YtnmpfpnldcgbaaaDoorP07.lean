/- How great a tree is that was read: no greater than twice the tokens that it was read from. Nothing of the program is walked here. A row of trees in memory, read tree by tree. Nothing of the program is walked here. -/
import Derived.Test.YtnmpfpnldcgbaaaDoorP04
import Derived.Test.YtnmpfpnldcgbaaaDoorP06
namespace Go.Proofs.YtnmpfpnldcgbaaaDoor
section
open Go.RowKit

/- What holds of whatever is read. -/
def Ok {α : Type} (G : α → List Tok → Prop) (r : R α) : Prop := ∀ a l, r = .ok (a, l) → G a l

section
variable {α β : Type} {G : α → List Tok → Prop} {H : β → List Tok → Prop}
theorem Ok.bd {r : R α} {f : α → List Tok → R β} (hr : Ok G r) (hf : ∀ a l, G a l → Ok H (f a l)) : Ok H (bd r f) := by
  intro b l h
  cases hq : r with
  | error e => rw [bd_err hq] at h; cases h
  | ok q =>
    obtain ⟨a, l1⟩ := q
    rw [bd_ok hq] at h
    exact hf a l1 (hr a l1 hq) b l h
theorem Ok.cond {b : Bool} {x y : R α} (hx : b = true → Ok G x) (hy : b = false → Ok G y) : Ok G (bif b then x else y) := by
  cases b
  · exact hy rfl
  · exact hx rfl
theorem Ok.ok {a : α} {l : List Tok} (h : G a l) : Ok G (.ok (a, l)) := by intro b l' e; cases e; exact h
theorem Ok.err {e : Nat × Int} : Ok G (.error e : R α) := by intro b l' h; cases h
theorem Ok.mono {G' : α → List Tok → Prop} {r : R α} (h : Ok G r) (hg : ∀ a l, G a l → G' a l) : Ok G' r := fun a l e => hg a l (h a l e)
end
theorem Ok.sum {G : T → List Tok → Prop} {s : Option (Int × Int)} {a : R T} {f : Int → Int → R T} (ha : s = none → Ok G a) (hf : ∀ k x, s = some (k, x) → Ok G (f k x)) : Ok G (sumK s a f) := by
  cases s with
  | none => exact ha rfl
  | some q => exact hf q.1 q.2 rfl

/- The tree's size and the tokens behind it, twice, are no more than c and the tokens ahead of it, twice. -/
def Sz (c : Nat) (l : List Tok) (t : T) (l' : List Tok) : Prop := t.size + 2 * l'.length ≤ 2 * l.length + c
def SzL (c : Nat) (l : List Tok) (ts : List T) (l' : List Tok) : Prop := sizes ts + 2 * l'.length ≤ 2 * l.length + c
def Sh {α : Type} (l : List Tok) (_ : α) (l' : List Tok) : Prop := l'.length + 1 ≤ l.length

theorem Ends_none (l : List Tok) : hdT l = zeroTok ∨ 0 < l.length := by cases l <;> simp [hdT]
theorem size_mk (k : Int) (s : ByteArray) (n : Int) (p : Nat) (ks : List T) : (T.mk k s n p ks).size = 1 + sizes ks := by rw [T.size]
theorem sizes_nil : sizes [] = 0 := by rw [sizes]
theorem sizes_cons (t : T) (ts : List T) : sizes (t :: ts) = t.size + sizes ts := by rw [sizes]
theorem sizes_append : ∀ a b : List T, sizes (a ++ b) = sizes a + sizes b
  | [], b => by simp [sizes_nil]
  | t :: ts, b => by rw [List.cons_append, sizes_cons, sizes_cons, sizes_append ts b]; omega
theorem size_setNum (v : Int) (t : T) : (t.setNum v).size = t.size := by cases t; simp [T.setNum, size_mk]
theorem size_snoc (t b : T) : (t.snoc b).size = t.size + b.size := by cases t; simp [T.snoc, size_mk, sizes_append, sizes_cons, sizes_nil]; omega

/- A token is passed over only where there is one. -/
theorem is_pos {l : List Tok} {s : ByteArray} (h : isT (hdT l) s = true) (hs : 0 < s.size) : 0 < l.length := by
  cases l with
  | nil =>
    have h1 := beq_iff_eq.1 (show ((zeroTok.text).toList == s.toList) = true from h)
    rw [ByteArray.toList_eq, ByteArray.toList_eq] at h1
    have h2 := congrArg List.length h1
    simp [zeroTok] at h2
    have : s.data.size = s.size := rfl
    omega
  | cons t r => simp
theorem kind_pos {l : List Tok} {k : Nat} (h : ((hdT l).kind == k) = true) (hk : 0 < k) : 0 < l.length := by
  cases l with
  | nil => have := beq_iff_eq.1 h; simp [hdT, zeroTok] at this; omega
  | cons t r => simp
theorem expect_sh {ss : List ByteArray} (l : List Tok) (hs : ∀ s ∈ ss, 0 < s.size) : Ok (Sh l) (expectP ss l) := by
  unfold expectP
  refine Ok.cond (fun h => Ok.ok ?_) (fun _ => Ok.err)
  obtain ⟨s, hm, h1⟩ := List.any_eq_true.1 h
  have := is_pos h1 (hs s hm)
  unfold Sh
  simp only [List.length_tail]
  omega
theorem kind_sh {k : Nat} (hk : 0 < k) (l : List Tok) : Ok (Sh l) (kindP k l) := by
  unfold kindP
  refine Ok.cond (fun h => Ok.ok ?_) (fun _ => Ok.err)
  have := kind_pos h hk
  unfold Sh
  simp only [List.length_tail]
  omega
theorem name_sh (l : List Tok) : Ok (Sh l) (nameP l) := by unfold nameP; exact (kind_sh (by omega) l).bd fun _ _ h => Ok.ok h
theorem number_sh (l : List Tok) : Ok (Sh l) (numberP l) := by unfold numberP; exact (kind_sh (by omega) l).bd fun _ _ h => Ok.ok h
theorem nameTerm_sz (l : List Tok) : Ok (Sz 0 l) (nameTermP l) := by
  unfold nameTermP
  exact (name_sh l).bd fun s l1 h => Ok.ok (by unfold Sz Sh at *; rw [size_mk, sizes_nil]; omega)
theorem numberTerm_sz (l : List Tok) : Ok (Sz 0 l) (numberTermP l) := by
  unfold numberTermP
  refine Ok.cond (fun _ => (number_sh _).bd fun s l1 h => Ok.ok ?_) (fun _ => (number_sh _).bd fun s l1 h => Ok.ok ?_)
  · unfold Sz Sh at *; rw [size_mk, sizes_nil]; simp only [List.length_tail] at h; omega
  · unfold Sz Sh at *; rw [size_mk, sizes_nil]; omega
theorem term_sz (l : List Tok) : Ok (Sz 0 l) (termP l) := by
  unfold termP
  refine Ok.cond (fun _ => (nameTerm_sz l).bd fun n l1 h => Ok.sum (fun _ => Ok.ok h) fun k x _ => (number_sh _).bd fun v l2 h2 => Ok.ok ?_) (fun _ => numberTerm_sz l)
  unfold Sz Sh at *; rw [size_setNum]; simp only [List.length_tail] at h2; omega
theorem listF_sz {item : List Tok → R T} (hi : ∀ l, Ok (Sz 0 l) (item l)) : ∀ (n : Nat) (l : List Tok), Ok (SzL 0 l) (listF item n l)
  | 0, l => Ok.err
  | n + 1, l => by
    rw [listF]
    refine Ok.cond (fun _ => (hi _).bd fun a l1 h => (listF_sz hi n l1).bd fun xs l2 h2 => Ok.ok ?_) (fun _ => Ok.ok (by unfold SzL; rw [sizes_nil]; omega))
    unfold SzL Sz at *; rw [sizes_cons]; simp only [List.length_tail] at h; omega
theorem list_sz {item : List Tok → R T} (hi : ∀ l, Ok (Sz 0 l) (item l)) (l : List Tok) : Ok (SzL 0 l) (listP item l) := by
  unfold listP
  refine (hi l).bd fun a l1 h => (listF_sz hi _ l1).bd fun xs l2 h2 => Ok.ok ?_
  unfold SzL Sz at *; rw [sizes_cons]; omega
theorem parens_sz {item : List Tok → R T} (hi : ∀ l, Ok (Sz 0 l) (item l)) (l : List Tok) : Ok (fun xs l' => sizes xs + 2 * l'.length + 2 ≤ 2 * l.length) (parensP item l) := by
  unfold parensP
  refine (expect_sh l (by decide)).bd fun _ l1 h => Ok.cond (fun _ => Ok.ok ?_) (fun _ => (list_sz hi l1).bd fun xs l2 h2 => (expect_sh l2 (by decide)).bd fun _ l3 h3 => Ok.ok ?_)
  · unfold Sh at *; rw [sizes_nil]; simp only [List.length_tail]; omega
  · unfold SzL Sh at *; omega
theorem index_sz (l : List Tok) : Ok (fun a l' => a.size + 2 * l'.length + 4 ≤ 2 * l.length) (indexP l) := by
  unfold indexP
  refine (expect_sh l (by decide)).bd fun _ l1 h => (term_sz l1).bd fun a l2 h2 => (expect_sh l2 (by decide)).bd fun _ l3 h3 => Ok.ok ?_
  unfold Sz Sh at *; omega
theorem sum_pos {l : List Tok} {q : Int × Int} (h : sumP l = some q) : 0 < l.length := by
  unfold sumP at h
  cases h1 : isT (hdT l) (bs [43]) with
  | true => exact is_pos h1 (by decide)
  | false =>
    rw [h1] at h
    cases h2 : isT (hdT l) (bs [45]) with
    | true => exact is_pos h2 (by decide)
    | false => rw [h2] at h; cases h
theorem call_sz (n : T) (l : List Tok) : Ok (Sz 0 l) (callP n l) := by
  unfold callP
  refine (parens_sz term_sz l).bd fun xs l1 h => Ok.ok ?_
  unfold Sz; rw [size_mk]; omega
theorem ref_sz (p : Nat) (l : List Tok) : Ok (Sz 0 l) (refP p l) := by
  unfold refP
  refine Ok.cond (fun _ => (name_sh _).bd fun s l1 h => Ok.ok ?_) (fun _ => (name_sh _).bd fun s l1 h => Ok.ok ?_)
  · unfold Sz Sh at *; rw [size_mk, sizes_nil]; simp only [List.length_tail] at h; omega
  · unfold Sz Sh at *; rw [size_mk, sizes_nil]; omega
theorem nameExpr_sz (l : List Tok) : Ok (Sz 0 l) (nameExprP l) := by
  unfold nameExprP
  refine (nameTerm_sz l).bd fun n l1 h => Ok.cond (fun _ => (index_sz l1).bd fun a l2 h2 => Ok.ok ?_) fun _ => Ok.cond (fun _ => (call_sz n l1).mono fun a l2 h2 => ?_) fun _ => Ok.sum (fun _ => Ok.ok h) fun k x hs => Ok.cond (fun _ => (nameTerm_sz _).bd fun m l2 h2 => Ok.ok ?_) (fun _ => (number_sh _).bd fun v l2 h2 => Ok.ok ?_)
  · unfold Sz at *; rw [size_mk, sizes_cons, sizes_nil]; omega
  · unfold Sz at *; omega
  · have := sum_pos hs
    unfold Sz at *; rw [size_mk, sizes_cons, sizes_cons, sizes_nil]; simp only [List.length_tail] at h2; omega
  · unfold Sz Sh at *; rw [size_setNum]; simp only [List.length_tail] at h2; omega
theorem expr_sz (l : List Tok) : Ok (Sz 0 l) (exprP l) := by
  unfold exprP
  refine Ok.cond (fun _ => (number_sh _).bd fun v l1 h => Ok.ok ?_) fun _ => Ok.cond (fun _ => (name_sh _).bd fun s l1 h => Ok.ok ?_) fun _ => Ok.cond (fun _ => (ref_sz _ _).mono fun a l1 h => ?_) fun _ => Ok.cond (fun _ => nameExpr_sz l) fun _ => numberTerm_sz l
  · unfold Sz Sh at *; rw [size_mk, sizes_nil]; simp only [List.length_tail] at h; omega
  · unfold Sz Sh at *; rw [size_mk, sizes_nil]; simp only [List.length_tail] at h; omega
  · unfold Sz at *; simp only [List.length_tail] at h; omega
theorem compare_sz (k : Int) (p : Nat) (l : List Tok) : Ok (fun t l' => t.size + 2 * l'.length + 1 ≤ 2 * l.length) (compareP k p l) := by
  unfold compareP
  refine (term_sz l).bd fun a l1 h1 => (expect_sh l1 (by decide)).bd fun c l2 h2 => (term_sz l2).bd fun b l3 h3 => Ok.ok ?_
  unfold Sz Sh at *; rw [size_mk, sizes_cons, sizes_cons, sizes_nil]; omega
theorem fact_sz (l : List Tok) : Ok (Sz 0 l) (factP l) := by
  unfold factP
  exact (compare_sz 4 _ l).mono fun t l' h => by unfold Sz; omega
theorem field_sz (l : List Tok) : Ok (Sz 0 l) (fieldP l) := by
  unfold fieldP
  refine (name_sh l).bd fun s l1 h => Ok.cond (fun hc => (nameTerm_sz _).bd fun a l2 h2 => (expect_sh l2 (by decide)).bd fun _ l3 h3 => Ok.ok ?_) (fun _ => Ok.ok ?_)
  · unfold Sz Sh at *; rw [size_mk, sizes_cons, sizes_nil]; simp only [List.length_tail] at h2; omega
  · unfold Sz Sh at *; rw [size_mk, sizes_nil]; omega
theorem sort_sz (l : List Tok) : Ok (Sz 0 l) (sortP l) := by
  unfold sortP
  refine (expect_sh l (by decide)).bd fun t l1 h => Ok.cond (fun _ => Ok.ok ?_) (fun _ => (nameTerm_sz l1).bd fun a l2 h2 => Ok.ok ?_)
  · unfold Sz Sh at *; rw [size_mk, sizes_nil]; omega
  · unfold Sz Sh at *; rw [size_mk, sizes_cons, sizes_nil]; omega
theorem valueMode_sz (l : List Tok) : Ok (Sz 0 l) (valueModeP l) := by
  unfold valueModeP
  refine (expect_sh l (by decide)).bd fun t l1 h => Ok.cond (fun _ => (nameTerm_sz l1).bd fun a l2 h2 => Ok.ok ?_) (fun _ => Ok.ok ?_)
  · unfold Sz Sh at *; rw [size_mk, sizes_cons, sizes_nil]; omega
  · unfold Sz Sh at *; rw [size_mk, sizes_nil]; omega
theorem mode_sz (l : List Tok) : Ok (Sz 0 l) (modeP l) := by
  unfold modeP
  refine Ok.cond (fun hc => Ok.cond (fun _ => (nameTerm_sz _).bd fun a l2 h2 => Ok.ok ?_) (fun _ => (nameTerm_sz _).bd fun a l2 h2 => Ok.ok ?_)) (fun _ => valueMode_sz l)
  · have := is_pos hc (by decide)
    unfold Sz at *; rw [size_mk, sizes_cons, sizes_nil]; simp only [List.length_tail] at h2; omega
  · have := is_pos hc (by decide)
    unfold Sz at *; rw [size_mk, sizes_cons, sizes_nil]; simp only [List.length_tail] at h2; omega
theorem param_sz (l : List Tok) : Ok (Sz 0 l) (paramP l) := by
  unfold paramP
  refine (name_sh l).bd fun s l1 h => (expect_sh l1 (by decide)).bd fun _ l2 h2 => (mode_sz l2).bd fun a l3 h3 => Ok.ok ?_
  unfold Sz Sh at *; rw [size_mk, sizes_cons, sizes_nil]; omega
theorem fields_sz (l : List Tok) : Ok (SzL 0 l) (fieldsP l) := by
  unfold fieldsP
  refine Ok.cond (fun _ => (list_sz field_sz _).bd fun xs l1 h => (expect_sh l1 (by decide)).bd fun _ l2 h2 => Ok.ok ?_) (fun _ => Ok.ok ?_)
  · unfold SzL Sh at *; simp only [List.length_tail] at h; omega
  · unfold SzL; rw [sizes_nil]; omega
theorem facts_sz (l : List Tok) : Ok (SzL 0 l) (factsP l) := by
  unfold factsP
  refine Ok.cond (fun _ => (list_sz fact_sz _).mono fun xs l1 h => ?_) (fun _ => Ok.ok ?_)
  · unfold SzL at *; simp only [List.length_tail] at h; omega
  · unfold SzL; rw [sizes_nil]; omega
theorem type_sz (p : Nat) (l : List Tok) : Ok (Sz 0 l) (typeP p l) := by
  unfold typeP
  refine (name_sh l).bd fun s l1 h => (sort_sz l1).bd fun a l2 h2 => (fields_sz l2).bd fun ys l3 h3 => (facts_sz l3).bd fun zs l4 h4 => (expect_sh l4 (by decide)).bd fun _ l5 h5 => Ok.ok ?_
  unfold Sz SzL Sh at *; rw [size_mk, sizes_cons, sizes_append]; omega
theorem lock_sz (k : Int) (p : Nat) (l : List Tok) : Ok (Sz 0 l) (lockP k p l) := by
  unfold lockP
  refine (name_sh l).bd fun s l1 h => (expect_sh l1 (by decide)).bd fun _ l2 h2 => (number_sh l2).bd fun v l3 h3 => (expect_sh l3 (by decide)).bd fun _ l4 h4 => Ok.ok ?_
  unfold Sz Sh at *; rw [size_mk, sizes_nil]; omega
theorem return_sz (p : Nat) (l : List Tok) : Ok (Sz 1 l) (returnP p l) := by
  unfold returnP
  refine Ok.cond (fun _ => Ok.ok ?_) (fun _ => (term_sz l).bd fun a l1 h => Ok.ok ?_)
  · unfold Sz; rw [size_mk, sizes_nil]; omega
  · unfold Sz at *; rw [size_mk, sizes_cons, sizes_nil]; omega
theorem name_term1 (l : List Tok) : Ok (fun n l' => n.size = 1 ∧ l'.length + 1 ≤ l.length) (nameTermP l) := by
  unfold nameTermP
  exact (name_sh l).bd fun s l1 h => Ok.ok ⟨by rw [size_mk, sizes_nil], h⟩
theorem parens_call (n : T) (l : List Tok) : Ok (fun t l' => t.size + 2 * l'.length + 1 ≤ 2 * l.length) (callP n l) := by
  unfold callP
  refine (parens_sz term_sz l).bd fun xs l1 h => Ok.ok ?_
  rw [size_mk]; omega
theorem named_sz (l : List Tok) : Ok (Sz 0 l) (namedP l) := by
  unfold namedP
  refine (name_term1 l).bd fun n l1 h => Ok.cond (fun _ => (parens_call n l1).bd fun c l2 h2 => Ok.ok ?_) fun _ => Ok.cond (fun _ => (index_sz l1).bd fun i l2 h2 => (expect_sh l2 (by decide)).bd fun _ l3 h3 => (term_sz l3).bd fun b l4 h4 => Ok.ok ?_) fun _ => (expect_sh l1 (by decide)).bd fun _ l2 h2 => (expr_sz l2).bd fun x l3 h3 => Ok.ok ?_
  · unfold Sz; rw [size_mk, sizes_cons, sizes_nil]; omega
  · unfold Sz Sh at *; rw [size_mk, sizes_cons, sizes_cons, sizes_nil]; omega
  · unfold Sz Sh at *; rw [size_mk, sizes_cons, sizes_nil]; omega
theorem simple_sz (l : List Tok) : Ok (Sz 0 l) (simpleP l) := by
  unfold simpleP
  refine Ok.cond (fun _ => named_sz l) fun _ => Ok.cond (fun _ => (name_sh _).bd fun s l1 h => Ok.ok ?_) fun _ => Ok.cond (fun _ => (lock_sz _ _ _).mono fun a l1 h => ?_) fun _ => Ok.cond (fun _ => (lock_sz _ _ _).mono fun a l1 h => ?_) fun _ => Ok.cond (fun hc => (return_sz _ _).mono fun a l1 h => ?_) fun _ => Ok.cond (fun hc => Ok.ok ?_) fun _ => Ok.cond (fun _ => (name_sh _).bd fun s l1 h => (parens_sz term_sz l1).bd fun xs l2 h2 => Ok.ok ?_) fun _ => Ok.err
  · unfold Sz Sh at *; rw [size_mk, sizes_nil]; simp only [List.length_tail] at h; omega
  · unfold Sz at *; simp only [List.length_tail] at h; omega
  · unfold Sz at *; simp only [List.length_tail] at h; omega
  · have := is_pos hc (by decide)
    unfold Sz at *; simp only [List.length_tail] at h; omega
  · have := is_pos hc (by decide)
    unfold Sz; rw [size_mk, sizes_nil]; simp only [List.length_tail]; omega
  · unfold Sz Sh at *; rw [size_mk]; simp only [List.length_tail] at h; omega
theorem else_sz {blk : List Tok → R T} (hb : ∀ l, Ok (Sz 0 l) (blk l)) (p : Nat) (l : List Tok) : Ok (Sz 1 l) (elseP blk p l) := by
  unfold elseP
  refine Ok.cond (fun _ => (hb _).mono fun a l1 h => ?_) (fun _ => Ok.ok ?_)
  · unfold Sz at *; simp only [List.length_tail] at h; omega
  · unfold Sz; rw [size_mk, sizes_nil]; omega
theorem if_sz {blk : List Tok → R T} (hb : ∀ l, Ok (Sz 0 l) (blk l)) (p : Nat) (l : List Tok) : Ok (Sz 0 l) (ifP blk p l) := by
  unfold ifP
  refine (compare_sz _ _ l).bd fun n l1 h => (hb l1).bd fun b l2 h2 => (else_sz hb p l2).bd fun c l3 h3 => Ok.ok ?_
  unfold Sz at *; rw [size_snoc, size_snoc]; omega
theorem while_sz {blk : List Tok → R T} (hb : ∀ l, Ok (Sz 0 l) (blk l)) (p : Nat) (l : List Tok) : Ok (Sz 0 l) (whileP blk p l) := by
  unfold whileP
  refine (compare_sz _ _ l).bd fun n l1 h => (hb l1).bd fun b l2 h2 => Ok.ok ?_
  unfold Sz at *; rw [size_snoc]; omega
theorem stmt_sz {blk : List Tok → R T} (hb : ∀ l, Ok (Sz 0 l) (blk l)) (l : List Tok) : Ok (Sz 0 l) (stmtP blk l) := by
  unfold stmtP
  refine Ok.cond (fun _ => (if_sz hb _ _).mono fun a l1 h => ?_) fun _ => Ok.cond (fun _ => (while_sz hb _ _).mono fun a l1 h => ?_) fun _ => (simple_sz l).bd fun n l1 h => (expect_sh l1 (by decide)).bd fun _ l2 h2 => Ok.ok ?_
  · unfold Sz at *; simp only [List.length_tail] at h; omega
  · unfold Sz at *; simp only [List.length_tail] at h; omega
  · unfold Sz Sh at *; omega
theorem stmtsF_sz {item : List Tok → R T} (hi : ∀ l, Ok (Sz 0 l) (item l)) : ∀ (n : Nat) (l : List Tok), Ok (SzL 0 l) (stmtsF item n l)
  | 0, l => Ok.err
  | n + 1, l => by
    rw [stmtsF]
    refine Ok.cond (fun _ => Ok.ok ?_) (fun _ => (hi l).bd fun a l1 h => (stmtsF_sz hi n l1).bd fun xs l2 h2 => Ok.ok ?_)
    · unfold SzL; rw [sizes_nil]; simp only [List.length_tail]; omega
    · unfold SzL Sz at *; rw [sizes_cons]; omega
theorem block_sz : ∀ (n : Nat) (l : List Tok), Ok (Sz 0 l) (blockP n l)
  | 0, l => by rw [blockP]; exact (expect_sh l (by decide)).bd fun _ _ _ => Ok.err
  | n + 1, l => by
    rw [blockP]
    refine (expect_sh l (by decide)).bd fun t l1 h => (stmtsF_sz (stmt_sz (block_sz n)) _ l1).bd fun xs l2 h2 => Ok.ok ?_
    unfold SzL Sz Sh at *; rw [size_mk]; omega
theorem result_sz (l : List Tok) : Ok (Sz 1 l) (resultP l) := by
  unfold resultP
  refine Ok.cond (fun _ => (valueMode_sz _).mono fun a l1 h => ?_) (fun _ => Ok.ok ?_)
  · unfold Sz at *; simp only [List.length_tail] at h; omega
  · unfold Sz; rw [size_mk, sizes_nil]; omega
theorem fn_sz (p : Nat) (l : List Tok) : Ok (Sz 0 l) (fnP p l) := by
  unfold fnP
  refine (name_sh l).bd fun s l1 h => (parens_sz param_sz l1).bd fun xs l2 h2 => (result_sz l2).bd fun r l3 h3 => (block_sz 8 l3).bd fun b l4 h4 => Ok.ok ?_
  unfold Sz Sh at *; rw [size_mk, sizes_append, sizes_cons, sizes_cons, sizes_nil]; omega
theorem decl_sz (l : List Tok) : Ok (Sz 0 l) (declP l) := by
  unfold declP
  refine (expect_sh l (by decide)).bd fun t l1 h => Ok.cond (fun _ => (type_sz _ _).mono fun a l2 h2 => ?_) (fun _ => (fn_sz _ _).mono fun a l2 h2 => ?_)
  · unfold Sz Sh at *; omega
  · unfold Sz Sh at *; omega
theorem unitF_sz : ∀ (n : Nat) (l : List Tok), Ok (SzL 0 l) (unitF n l)
  | 0, l => Ok.err
  | n + 1, l => by
    rw [unitF]
    refine Ok.cond (fun _ => Ok.ok ?_) (fun _ => (decl_sz l).bd fun a l1 h => (unitF_sz n l1).bd fun xs l2 h2 => Ok.ok ?_)
    · unfold SzL; rw [sizes_nil]; omega
    · unfold SzL Sz at *; rw [sizes_cons]; omega
theorem unit_sz {l l' : List Tok} {t : T} (h : unitP l = .ok (t, l')) : t.size ≤ 2 * l.length + 1 := by
  have h1 : Ok (Sz 1 l) (unitP l) := by
    unfold unitP
    refine (unitF_sz _ l).bd fun xs l1 h => Ok.ok ?_
    unfold SzL at h; unfold Sz; rw [size_mk]; omega
  have h2 := h1 t l' h
  unfold Sz at h2
  omega
end

section
open Go.RowKit

theorem rowCells_get : ∀ (ks : List T) (vs : List Value) (k : Nat) (t : T) (u : Value) (j : Nat), ks[k]? = some t → vs[k]? = some u → j < 5 → (rowCells ks vs)[k * 5 + j]? = (nodeCells t u)[j]?
  | [], _, k, t, u, j, h, _, _ => by simp at h
  | _ :: _, [], k, t, u, j, _, h, _ => by simp at h
  | a :: ks, b :: vs, 0, t, u, j, h, h', hj => by
    obtain rfl : a = t := by simpa using h
    obtain rfl : b = u := by simpa using h'
    rw [rowCells, Nat.zero_mul, Nat.zero_add, List.getElem?_append_left (by simpa [nodeCells] using hj)]
  | a :: ks, b :: vs, k + 1, t, u, j, h, h', hj => by
    rw [rowCells, List.getElem?_append_right (by simp [nodeCells]; omega)]
    have e : (k + 1) * 5 + j - (nodeCells a b).length = k * 5 + j := by simp [nodeCells]; omega
    rw [e]
    exact rowCells_get ks vs k t u j (by simpa using h) (by simpa using h') hj
theorem TsAt.get {e : TypeId} {w : World} : ∀ {ts : List T} {S : Nat → Prop} {vs : List Value}, TsAt e w ts S vs → ∀ {k : Nat} {t : T}, ts[k]? = some t → ∃ u, vs[k]? = some u ∧ TAt e w t S u
  | [], _, _, _, k, t, h => by simp at h
  | a :: ts, S, vs, h, 0, t, hk => by
    unfold TsAt at h
    obtain ⟨v, vs', rfl, ht, _⟩ := h
    obtain rfl : a = t := by simpa using hk
    exact ⟨v, rfl, ht⟩
  | a :: ts, S, vs, h, k + 1, t, hk => by
    unfold TsAt at h
    obtain ⟨v, vs', rfl, _, hts⟩ := h
    obtain ⟨u, hu, ht⟩ := TsAt.get hts (k := k) (t := t) (by simpa using hk)
    exact ⟨u, by simpa using hu, ht⟩

/- A slice of trees is nil and holds none, or lies in a block. -/
theorem KAt.form {e : TypeId} {w : World} {ks : List T} {S : Nat → Prop} {v : Value} (h : KAt e w ks S v) : (v = .slice none 0 0 ∧ ks = []) ∨ ∃ g cap, v = .slice (some ⟨g, 0, none⟩) ks.length cap ∧ g < w.heap.size ∧ ks.length ≤ cap ∧ cap ≤ maxLen ∧
    ∀ k t, ks[k]? = some t → ∃ u, w.rangeAt g (k * 5) (nodeCells t u) ∧ TAt e w t S u := by
  obtain ⟨vs, ho, hS, hts⟩ := h
  have ho' := ho
  rcases ho.2 with ⟨rfl, h0⟩ | ⟨g, cap, cur, rfl, hb, hg, hnc, hcm, hcs, htake⟩
  · exact .inl ⟨rfl, List.eq_nil_of_length_eq_zero h0⟩
  · refine .inr ⟨g, cap, rfl, (Array.getElem?_eq_some_iff.1 hg).1, hnc, hcm, fun k t hk => ?_⟩
    obtain ⟨u, hu, ht⟩ := TsAt.get hts hk
    refine ⟨u, fun j x hj => ?_, ht.mono fun b hb _ => hb.1⟩
    have hj5 : j < 5 := by have := (List.getElem?_eq_some_iff.1 hj).1; simpa [nodeCells] using this
    have hlt : k < ks.length := (List.getElem?_eq_some_iff.1 hk).1
    rw [ho'.cellAt (k * 5 + j) (by omega), rowCells_get ks vs k t u j hk hu hj5]
    exact hj
theorem rangeAt_below {w w' : World} {g o : Nat} {cs : List Value} (h : w.rangeAt g o cs) (hb : Below w.heap.size w w') (hg : g < w.heap.size) : w'.rangeAt g o cs := fun j v hj => (hb.cell (p := ⟨g, o + j, none⟩) hg).trans (h j v hj)

theorem sizes_take (ks : List T) (k : Nat) (t : T) (h : ks[k]? = some t) : sizes (ks.take (k + 1)) = sizes (ks.take k) + t.size := by
  have hlt := (List.getElem?_eq_some_iff.1 h).1
  rw [List.take_succ_eq_append_getElem hlt, sizes_append, sizes_cons, sizes_nil, (List.getElem?_eq_some_iff.1 h).2]
  omega
theorem sizes_mem : ∀ {ks : List T} {k : Nat} {t : T}, ks[k]? = some t → t.size ≤ sizes ks
  | [], k, t, h => by simp at h
  | a :: ks, 0, t, h => by
    obtain rfl : a = t := by simpa using h
    rw [sizes_cons]; omega
  | a :: ks, k + 1, t, h => by rw [sizes_cons]; have := sizes_mem (ks := ks) (k := k) (t := t) (by simpa using h); omega
theorem sizes_take_le (ks : List T) (k : Nat) : sizes (ks.take k) ≤ sizes ks := by
  have h := sizes_append (ks.take k) (ks.drop k)
  rw [List.take_append_drop] at h
  omega

theorem len_sizes : ∀ ks : List T, ks.length ≤ sizes ks
  | [] => by simp
  | a :: ks => by have := len_sizes ks; rw [sizes_cons]; cases a; rw [size_mk]; simp; omega

theorem kids_len (t : T) : t.kids.length ≤ t.size := by
  cases t with
  | mk k s n p ks => rw [size_mk]; have := len_sizes ks; show ks.length ≤ _; omega
end

end Go.Proofs.YtnmpfpnldcgbaaaDoor
