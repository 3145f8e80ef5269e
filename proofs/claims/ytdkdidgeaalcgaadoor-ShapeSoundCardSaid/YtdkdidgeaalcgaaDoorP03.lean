/- How great a tree is that was read: no greater than twice the tokens that it was read from. Nothing of the program is walked here. The contract of lex.Tokens in a world that holds the tables of lex: it returns what the plain account says, in new memory, and changes nothing that was there. -/
import Derived.Test.YtdkdidgeaalcgaaDoorP02
import Derived.Deep.LoopGhost
import Derived.WalkMore
namespace Go.Proofs.YtdkdidgeaalcgaaDoor
section
open Go.RowKit

/- What holds of whatever is read. -/
def Ok {α : Type} (G : α → List Tok → Prop) (r : R α) : Prop := ∀ a l, r = .ok (a, l) → G a l

section
variable {α β : Type} {G : α → List Tok → Prop} {H : β → List Tok → Prop}
theorem Ok.bd {r : R α} {f : α → List Tok → R β} (hr : Ok G r) (hf : ∀ a l, G a l → Ok H (f a l)) : Ok H (bd r f) := by
  intro b l h
  cases hq : r with
  | error e => rw [bd_err hq] at h; cases h
  | ok q =>
    obtain ⟨a, l1⟩ := q
    rw [bd_ok hq] at h
    exact hf a l1 (hr a l1 hq) b l h
theorem Ok.cond {b : Bool} {x y : R α} (hx : b = true → Ok G x) (hy : b = false → Ok G y) : Ok G (bif b then x else y) := by
  cases b
  · exact hy rfl
  · exact hx rfl
theorem Ok.ok {a : α} {l : List Tok} (h : G a l) : Ok G (.ok (a, l)) := by intro b l' e; cases e; exact h
theorem Ok.err {e : Nat × Int} : Ok G (.error e : R α) := by intro b l' h; cases h
theorem Ok.mono {G' : α → List Tok → Prop} {r : R α} (h : Ok G r) (hg : ∀ a l, G a l → G' a l) : Ok G' r := fun a l e => hg a l (h a l e)
end
theorem Ok.sum {G : T → List Tok → Prop} {s : Option (Int × Int)} {a : R T} {f : Int → Int → R T} (ha : s = none → Ok G a) (hf : ∀ k x, s = some (k, x) → Ok G (f k x)) : Ok G (sumK s a f) := by
  cases s with
  | none => exact ha rfl
  | some q => exact hf q.1 q.2 rfl

/- The tree's size and the tokens behind it, twice, are no more than c and the tokens ahead of it, twice. -/
def Sz (c : Nat) (l : List Tok) (t : T) (l' : List Tok) : Prop := t.size + 2 * l'.length ≤ 2 * l.length + c
def SzL (c : Nat) (l : List Tok) (ts : List T) (l' : List Tok) : Prop := sizes ts + 2 * l'.length ≤ 2 * l.length + c
def Sh {α : Type} (l : List Tok) (_ : α) (l' : List Tok) : Prop := l'.length + 1 ≤ l.length

theorem Ends_none (l : List Tok) : hdT l = zeroTok ∨ 0 < l.length := by cases l <;> simp [hdT]
theorem size_mk (k : Int) (s : ByteArray) (n : Int) (p : Nat) (ks : List T) : (T.mk k s n p ks).size = 1 + sizes ks := by rw [T.size]
theorem sizes_nil : sizes [] = 0 := by rw [sizes]
theorem sizes_cons (t : T) (ts : List T) : sizes (t :: ts) = t.size + sizes ts := by rw [sizes]
theorem sizes_append : ∀ a b : List T, sizes (a ++ b) = sizes a + sizes b
  | [], b => by simp [sizes_nil]
  | t :: ts, b => by rw [List.cons_append, sizes_cons, sizes_cons, sizes_append ts b]; omega
theorem size_setNum (v : Int) (t : T) : (t.setNum v).size = t.size := by cases t; simp [T.setNum, size_mk]
theorem size_snoc (t b : T) : (t.snoc b).size = t.size + b.size := by cases t; simp [T.snoc, size_mk, sizes_append, sizes_cons, sizes_nil]; omega

/- A token is passed over only where there is one. -/
theorem is_pos {l : List Tok} {s : ByteArray} (h : isT (hdT l) s = true) (hs : 0 < s.size) : 0 < l.length := by
  cases l with
  | nil =>
    have h1 := beq_iff_eq.1 (show ((zeroTok.text).toList == s.toList) = true from h)
    rw [ByteArray.toList_eq, ByteArray.toList_eq] at h1
    have h2 := congrArg List.length h1
    simp [zeroTok] at h2
    have : s.data.size = s.size := rfl
    omega
  | cons t r => simp
theorem kind_pos {l : List Tok} {k : Nat} (h : ((hdT l).kind == k) = true) (hk : 0 < k) : 0 < l.length := by
  cases l with
  | nil => have := beq_iff_eq.1 h; simp [hdT, zeroTok] at this; omega
  | cons t r => simp
theorem expect_sh {ss : List ByteArray} (l : List Tok) (hs : ∀ s ∈ ss, 0 < s.size) : Ok (Sh l) (expectP ss l) := by
  unfold expectP
  refine Ok.cond (fun h => Ok.ok ?_) (fun _ => Ok.err)
  obtain ⟨s, hm, h1⟩ := List.any_eq_true.1 h
  have := is_pos h1 (hs s hm)
  unfold Sh
  simp only [List.length_tail]
  omega
theorem kind_sh {k : Nat} (hk : 0 < k) (l : List Tok) : Ok (Sh l) (kindP k l) := by
  unfold kindP
  refine Ok.cond (fun h => Ok.ok ?_) (fun _ => Ok.err)
  have := kind_pos h hk
  unfold Sh
  simp only [List.length_tail]
  omega
theorem name_sh (l : List Tok) : Ok (Sh l) (nameP l) := by unfold nameP; exact (kind_sh (by omega) l).bd fun _ _ h => Ok.ok h
theorem number_sh (l : List Tok) : Ok (Sh l) (numberP l) := by unfold numberP; exact (kind_sh (by omega) l).bd fun _ _ h => Ok.ok h
theorem nameTerm_sz (l : List Tok) : Ok (Sz 0 l) (nameTermP l) := by
  unfold nameTermP
  exact (name_sh l).bd fun s l1 h => Ok.ok (by unfold Sz Sh at *; rw [size_mk, sizes_nil]; omega)
theorem numberTerm_sz (l : List Tok) : Ok (Sz 0 l) (numberTermP l) := by
  unfold numberTermP
  refine Ok.cond (fun _ => (number_sh _).bd fun s l1 h => Ok.ok ?_) (fun _ => (number_sh _).bd fun s l1 h => Ok.ok ?_)
  · unfold Sz Sh at *; rw [size_mk, sizes_nil]; simp only [List.length_tail] at h; omega
  · unfold Sz Sh at *; rw [size_mk, sizes_nil]; omega
theorem term_sz (l : List Tok) : Ok (Sz 0 l) (termP l) := by
  unfold termP
  refine Ok.cond (fun _ => (nameTerm_sz l).bd fun n l1 h => Ok.sum (fun _ => Ok.ok h) fun k x _ => (number_sh _).bd fun v l2 h2 => Ok.ok ?_) (fun _ => numberTerm_sz l)
  unfold Sz Sh at *; rw [size_setNum]; simp only [List.length_tail] at h2; omega
theorem listF_sz {item : List Tok → R T} (hi : ∀ l, Ok (Sz 0 l) (item l)) : ∀ (n : Nat) (l : List Tok), Ok (SzL 0 l) (listF item n l)
  | 0, l => Ok.err
  | n + 1, l => by
    rw [listF]
    refine Ok.cond (fun _ => (hi _).bd fun a l1 h => (listF_sz hi n l1).bd fun xs l2 h2 => Ok.ok ?_) (fun _ => Ok.ok (by unfold SzL; rw [sizes_nil]; omega))
    unfold SzL Sz at *; rw [sizes_cons]; simp only [List.length_tail] at h; omega
theorem list_sz {item : List Tok → R T} (hi : ∀ l, Ok (Sz 0 l) (item l)) (l : List Tok) : Ok (SzL 0 l) (listP item l) := by
  unfold listP
  refine (hi l).bd fun a l1 h => (listF_sz hi _ l1).bd fun xs l2 h2 => Ok.ok ?_
  unfold SzL Sz at *; rw [sizes_cons]; omega
theorem parens_sz {item : List Tok → R T} (hi : ∀ l, Ok (Sz 0 l) (item l)) (l : List Tok) : Ok (fun xs l' => sizes xs + 2 * l'.length + 2 ≤ 2 * l.length) (parensP item l) := by
  unfold parensP
  refine (expect_sh l (by decide)).bd fun _ l1 h => Ok.cond (fun _ => Ok.ok ?_) (fun _ => (list_sz hi l1).bd fun xs l2 h2 => (expect_sh l2 (by decide)).bd fun _ l3 h3 => Ok.ok ?_)
  · unfold Sh at *; rw [sizes_nil]; simp only [List.length_tail]; omega
  · unfold SzL Sh at *; omega
theorem index_sz (l : List Tok) : Ok (fun a l' => a.size + 2 * l'.length + 4 ≤ 2 * l.length) (indexP l) := by
  unfold indexP
  refine (expect_sh l (by decide)).bd fun _ l1 h => (term_sz l1).bd fun a l2 h2 => (expect_sh l2 (by decide)).bd fun _ l3 h3 => Ok.ok ?_
  unfold Sz Sh at *; omega
theorem sum_pos {l : List Tok} {q : Int × Int} (h : sumP l = some q) : 0 < l.length := by
  unfold sumP at h
  cases h1 : isT (hdT l) (bs [43]) with
  | true => exact is_pos h1 (by decide)
  | false =>
    rw [h1] at h
    cases h2 : isT (hdT l) (bs [45]) with
    | true => exact is_pos h2 (by decide)
    | false => rw [h2] at h; cases h
theorem call_sz (n : T) (l : List Tok) : Ok (Sz 0 l) (callP n l) := by
  unfold callP
  refine (parens_sz term_sz l).bd fun xs l1 h => Ok.ok ?_
  unfold Sz; rw [size_mk]; omega
theorem ref_sz (p : Nat) (l : List Tok) : Ok (Sz 0 l) (refP p l) := by
  unfold refP
  refine Ok.cond (fun _ => (name_sh _).bd fun s l1 h => Ok.ok ?_) (fun _ => (name_sh _).bd fun s l1 h => Ok.ok ?_)
  · unfold Sz Sh at *; rw [size_mk, sizes_nil]; simp only [List.length_tail] at h; omega
  · unfold Sz Sh at *; rw [size_mk, sizes_nil]; omega
theorem nameExpr_sz (l : List Tok) : Ok (Sz 0 l) (nameExprP l) := by
  unfold nameExprP
  refine (nameTerm_sz l).bd fun n l1 h => Ok.cond (fun _ => (index_sz l1).bd fun a l2 h2 => Ok.ok ?_) fun _ => Ok.cond (fun _ => (call_sz n l1).mono fun a l2 h2 => ?_) fun _ => Ok.sum (fun _ => Ok.ok h) fun k x hs => Ok.cond (fun _ => (nameTerm_sz _).bd fun m l2 h2 => Ok.ok ?_) (fun _ => (number_sh _).bd fun v l2 h2 => Ok.ok ?_)
  · unfold Sz at *; rw [size_mk, sizes_cons, sizes_nil]; omega
  · unfold Sz at *; omega
  · have := sum_pos hs
    unfold Sz at *; rw [size_mk, sizes_cons, sizes_cons, sizes_nil]; simp only [List.length_tail] at h2; omega
  · unfold Sz Sh at *; rw [size_setNum]; simp only [List.length_tail] at h2; omega
theorem expr_sz (l : List Tok) : Ok (Sz 0 l) (exprP l) := by
  unfold exprP
  refine Ok.cond (fun _ => (number_sh _).bd fun v l1 h => Ok.ok ?_) fun _ => Ok.cond (fun _ => (name_sh _).bd fun s l1 h => Ok.ok ?_) fun _ => Ok.cond (fun _ => (ref_sz _ _).mono fun a l1 h => ?_) fun _ => Ok.cond (fun _ => nameExpr_sz l) fun _ => numberTerm_sz l
  · unfold Sz Sh at *; rw [size_mk, sizes_nil]; simp only [List.length_tail] at h; omega
  · unfold Sz Sh at *; rw [size_mk, sizes_nil]; simp only [List.length_tail] at h; omega
  · unfold Sz at *; simp only [List.length_tail] at h; omega
theorem compare_sz (k : Int) (p : Nat) (l : List Tok) : Ok (fun t l' => t.size + 2 * l'.length + 1 ≤ 2 * l.length) (compareP k p l) := by
  unfold compareP
  refine (term_sz l).bd fun a l1 h1 => (expect_sh l1 (by decide)).bd fun c l2 h2 => (term_sz l2).bd fun b l3 h3 => Ok.ok ?_
  unfold Sz Sh at *; rw [size_mk, sizes_cons, sizes_cons, sizes_nil]; omega
theorem fact_sz (l : List Tok) : Ok (Sz 0 l) (factP l) := by
  unfold factP
  exact (compare_sz 4 _ l).mono fun t l' h => by unfold Sz; omega
theorem field_sz (l : List Tok) : Ok (Sz 0 l) (fieldP l) := by
  unfold fieldP
  refine (name_sh l).bd fun s l1 h => Ok.cond (fun hc => (nameTerm_sz _).bd fun a l2 h2 => (expect_sh l2 (by decide)).bd fun _ l3 h3 => Ok.ok ?_) (fun _ => Ok.ok ?_)
  · unfold Sz Sh at *; rw [size_mk, sizes_cons, sizes_nil]; simp only [List.length_tail] at h2; omega
  · unfold Sz Sh at *; rw [size_mk, sizes_nil]; omega
theorem sort_sz (l : List Tok) : Ok (Sz 0 l) (sortP l) := by
  unfold sortP
  refine (expect_sh l (by decide)).bd fun t l1 h => Ok.cond (fun _ => Ok.ok ?_) (fun _ => (nameTerm_sz l1).bd fun a l2 h2 => Ok.ok ?_)
  · unfold Sz Sh at *; rw [size_mk, sizes_nil]; omega
  · unfold Sz Sh at *; rw [size_mk, sizes_cons, sizes_nil]; omega
theorem valueMode_sz (l : List Tok) : Ok (Sz 0 l) (valueModeP l) := by
  unfold valueModeP
  refine (expect_sh l (by decide)).bd fun t l1 h => Ok.cond (fun _ => (nameTerm_sz l1).bd fun a l2 h2 => Ok.ok ?_) (fun _ => Ok.ok ?_)
  · unfold Sz Sh at *; rw [size_mk, sizes_cons, sizes_nil]; omega
  · unfold Sz Sh at *; rw [size_mk, sizes_nil]; omega
theorem mode_sz (l : List Tok) : Ok (Sz 0 l) (modeP l) := by
  unfold modeP
  refine Ok.cond (fun hc => Ok.cond (fun _ => (nameTerm_sz _).bd fun a l2 h2 => Ok.ok ?_) (fun _ => (nameTerm_sz _).bd fun a l2 h2 => Ok.ok ?_)) (fun _ => valueMode_sz l)
  · have := is_pos hc (by decide)
    unfold Sz at *; rw [size_mk, sizes_cons, sizes_nil]; simp only [List.length_tail] at h2; omega
  · have := is_pos hc (by decide)
    unfold Sz at *; rw [size_mk, sizes_cons, sizes_nil]; simp only [List.length_tail] at h2; omega
theorem param_sz (l : List Tok) : Ok (Sz 0 l) (paramP l) := by
  unfold paramP
  refine (name_sh l).bd fun s l1 h => (expect_sh l1 (by decide)).bd fun _ l2 h2 => (mode_sz l2).bd fun a l3 h3 => Ok.ok ?_
  unfold Sz Sh at *; rw [size_mk, sizes_cons, sizes_nil]; omega
theorem fields_sz (l : List Tok) : Ok (SzL 0 l) (fieldsP l) := by
  unfold fieldsP
  refine Ok.cond (fun _ => (list_sz field_sz _).bd fun xs l1 h => (expect_sh l1 (by decide)).bd fun _ l2 h2 => Ok.ok ?_) (fun _ => Ok.ok ?_)
  · unfold SzL Sh at *; simp only [List.length_tail] at h; omega
  · unfold SzL; rw [sizes_nil]; omega
theorem facts_sz (l : List Tok) : Ok (SzL 0 l) (factsP l) := by
  unfold factsP
  refine Ok.cond (fun _ => (list_sz fact_sz _).mono fun xs l1 h => ?_) (fun _ => Ok.ok ?_)
  · unfold SzL at *; simp only [List.length_tail] at h; omega
  · unfold SzL; rw [sizes_nil]; omega
theorem type_sz (p : Nat) (l : List Tok) : Ok (Sz 0 l) (typeP p l) := by
  unfold typeP
  refine (name_sh l).bd fun s l1 h => (sort_sz l1).bd fun a l2 h2 => (fields_sz l2).bd fun ys l3 h3 => (facts_sz l3).bd fun zs l4 h4 => (expect_sh l4 (by decide)).bd fun _ l5 h5 => Ok.ok ?_
  unfold Sz SzL Sh at *; rw [size_mk, sizes_cons, sizes_append]; omega
theorem lock_sz (k : Int) (p : Nat) (l : List Tok) : Ok (Sz 0 l) (lockP k p l) := by
  unfold lockP
  refine (name_sh l).bd fun s l1 h => (expect_sh l1 (by decide)).bd fun _ l2 h2 => (number_sh l2).bd fun v l3 h3 => (expect_sh l3 (by decide)).bd fun _ l4 h4 => Ok.ok ?_
  unfold Sz Sh at *; rw [size_mk, sizes_nil]; omega
theorem return_sz (p : Nat) (l : List Tok) : Ok (Sz 1 l) (returnP p l) := by
  unfold returnP
  refine Ok.cond (fun _ => Ok.ok ?_) (fun _ => (term_sz l).bd fun a l1 h => Ok.ok ?_)
  · unfold Sz; rw [size_mk, sizes_nil]; omega
  · unfold Sz at *; rw [size_mk, sizes_cons, sizes_nil]; omega
theorem name_term1 (l : List Tok) : Ok (fun n l' => n.size = 1 ∧ l'.length + 1 ≤ l.length) (nameTermP l) := by
  unfold nameTermP
  exact (name_sh l).bd fun s l1 h => Ok.ok ⟨by rw [size_mk, sizes_nil], h⟩
theorem parens_call (n : T) (l : List Tok) : Ok (fun t l' => t.size + 2 * l'.length + 1 ≤ 2 * l.length) (callP n l) := by
  unfold callP
  refine (parens_sz term_sz l).bd fun xs l1 h => Ok.ok ?_
  rw [size_mk]; omega
theorem named_sz (l : List Tok) : Ok (Sz 0 l) (namedP l) := by
  unfold namedP
  refine (name_term1 l).bd fun n l1 h => Ok.cond (fun _ => (parens_call n l1).bd fun c l2 h2 => Ok.ok ?_) fun _ => Ok.cond (fun _ => (index_sz l1).bd fun i l2 h2 => (expect_sh l2 (by decide)).bd fun _ l3 h3 => (term_sz l3).bd fun b l4 h4 => Ok.ok ?_) fun _ => (expect_sh l1 (by decide)).bd fun _ l2 h2 => (expr_sz l2).bd fun x l3 h3 => Ok.ok ?_
  · unfold Sz; rw [size_mk, sizes_cons, sizes_nil]; omega
  · unfold Sz Sh at *; rw [size_mk, sizes_cons, sizes_cons, sizes_nil]; omega
  · unfold Sz Sh at *; rw [size_mk, sizes_cons, sizes_nil]; omega
theorem simple_sz (l : List Tok) : Ok (Sz 0 l) (simpleP l) := by
  unfold simpleP
  refine Ok.cond (fun _ => named_sz l) fun _ => Ok.cond (fun _ => (name_sh _).bd fun s l1 h => Ok.ok ?_) fun _ => Ok.cond (fun _ => (lock_sz _ _ _).mono fun a l1 h => ?_) fun _ => Ok.cond (fun _ => (lock_sz _ _ _).mono fun a l1 h => ?_) fun _ => Ok.cond (fun hc => (return_sz _ _).mono fun a l1 h => ?_) fun _ => Ok.cond (fun hc => Ok.ok ?_) fun _ => Ok.cond (fun _ => (name_sh _).bd fun s l1 h => (parens_sz term_sz l1).bd fun xs l2 h2 => Ok.ok ?_) fun _ => Ok.err
  · unfold Sz Sh at *; rw [size_mk, sizes_nil]; simp only [List.length_tail] at h; omega
  · unfold Sz at *; simp only [List.length_tail] at h; omega
  · unfold Sz at *; simp only [List.length_tail] at h; omega
  · have := is_pos hc (by decide)
    unfold Sz at *; simp only [List.length_tail] at h; omega
  · have := is_pos hc (by decide)
    unfold Sz; rw [size_mk, sizes_nil]; simp only [List.length_tail]; omega
  · unfold Sz Sh at *; rw [size_mk]; simp only [List.length_tail] at h; omega
theorem else_sz {blk : List Tok → R T} (hb : ∀ l, Ok (Sz 0 l) (blk l)) (p : Nat) (l : List Tok) : Ok (Sz 1 l) (elseP blk p l) := by
  unfold elseP
  refine Ok.cond (fun _ => (hb _).mono fun a l1 h => ?_) (fun _ => Ok.ok ?_)
  · unfold Sz at *; simp only [List.length_tail] at h; omega
  · unfold Sz; rw [size_mk, sizes_nil]; omega
theorem if_sz {blk : List Tok → R T} (hb : ∀ l, Ok (Sz 0 l) (blk l)) (p : Nat) (l : List Tok) : Ok (Sz 0 l) (ifP blk p l) := by
  unfold ifP
  refine (compare_sz _ _ l).bd fun n l1 h => (hb l1).bd fun b l2 h2 => (else_sz hb p l2).bd fun c l3 h3 => Ok.ok ?_
  unfold Sz at *; rw [size_snoc, size_snoc]; omega
theorem while_sz {blk : List Tok → R T} (hb : ∀ l, Ok (Sz 0 l) (blk l)) (p : Nat) (l : List Tok) : Ok (Sz 0 l) (whileP blk p l) := by
  unfold whileP
  refine (compare_sz _ _ l).bd fun n l1 h => (hb l1).bd fun b l2 h2 => Ok.ok ?_
  unfold Sz at *; rw [size_snoc]; omega
theorem stmt_sz {blk : List Tok → R T} (hb : ∀ l, Ok (Sz 0 l) (blk l)) (l : List Tok) : Ok (Sz 0 l) (stmtP blk l) := by
  unfold stmtP
  refine Ok.cond (fun _ => (if_sz hb _ _).mono fun a l1 h => ?_) fun _ => Ok.cond (fun _ => (while_sz hb _ _).mono fun a l1 h => ?_) fun _ => (simple_sz l).bd fun n l1 h => (expect_sh l1 (by decide)).bd fun _ l2 h2 => Ok.ok ?_
  · unfold Sz at *; simp only [List.length_tail] at h; omega
  · unfold Sz at *; simp only [List.length_tail] at h; omega
  · unfold Sz Sh at *; omega
theorem stmtsF_sz {item : List Tok → R T} (hi : ∀ l, Ok (Sz 0 l) (item l)) : ∀ (n : Nat) (l : List Tok), Ok (SzL 0 l) (stmtsF item n l)
  | 0, l => Ok.err
  | n + 1, l => by
    rw [stmtsF]
    refine Ok.cond (fun _ => Ok.ok ?_) (fun _ => (hi l).bd fun a l1 h => (stmtsF_sz hi n l1).bd fun xs l2 h2 => Ok.ok ?_)
    · unfold SzL; rw [sizes_nil]; simp only [List.length_tail]; omega
    · unfold SzL Sz at *; rw [sizes_cons]; omega
theorem block_sz : ∀ (n : Nat) (l : List Tok), Ok (Sz 0 l) (blockP n l)
  | 0, l => by rw [blockP]; exact (expect_sh l (by decide)).bd fun _ _ _ => Ok.err
  | n + 1, l => by
    rw [blockP]
    refine (expect_sh l (by decide)).bd fun t l1 h => (stmtsF_sz (stmt_sz (block_sz n)) _ l1).bd fun xs l2 h2 => Ok.ok ?_
    unfold SzL Sz Sh at *; rw [size_mk]; omega
theorem result_sz (l : List Tok) : Ok (Sz 1 l) (resultP l) := by
  unfold resultP
  refine Ok.cond (fun _ => (valueMode_sz _).mono fun a l1 h => ?_) (fun _ => Ok.ok ?_)
  · unfold Sz at *; simp only [List.length_tail] at h; omega
  · unfold Sz; rw [size_mk, sizes_nil]; omega
theorem fn_sz (p : Nat) (l : List Tok) : Ok (Sz 0 l) (fnP p l) := by
  unfold fnP
  refine (name_sh l).bd fun s l1 h => (parens_sz param_sz l1).bd fun xs l2 h2 => (result_sz l2).bd fun r l3 h3 => (block_sz 8 l3).bd fun b l4 h4 => Ok.ok ?_
  unfold Sz Sh at *; rw [size_mk, sizes_append, sizes_cons, sizes_cons, sizes_nil]; omega
theorem decl_sz (l : List Tok) : Ok (Sz 0 l) (declP l) := by
  unfold declP
  refine (expect_sh l (by decide)).bd fun t l1 h => Ok.cond (fun _ => (type_sz _ _).mono fun a l2 h2 => ?_) (fun _ => (fn_sz _ _).mono fun a l2 h2 => ?_)
  · unfold Sz Sh at *; omega
  · unfold Sz Sh at *; omega
theorem unitF_sz : ∀ (n : Nat) (l : List Tok), Ok (SzL 0 l) (unitF n l)
  | 0, l => Ok.err
  | n + 1, l => by
    rw [unitF]
    refine Ok.cond (fun _ => Ok.ok ?_) (fun _ => (decl_sz l).bd fun a l1 h => (unitF_sz n l1).bd fun xs l2 h2 => Ok.ok ?_)
    · unfold SzL; rw [sizes_nil]; omega
    · unfold SzL Sz at *; rw [sizes_cons]; omega
theorem unit_sz {l l' : List Tok} {t : T} (h : unitP l = .ok (t, l')) : t.size ≤ 2 * l.length + 1 := by
  have h1 : Ok (Sz 1 l) (unitP l) := by
    unfold unitP
    refine (unitF_sz _ l).bd fun xs l1 h => Ok.ok ?_
    unfold SzL at h; unfold Sz; rw [size_mk]; omega
  have h2 := h1 t l' h
  unfold Sz at h2
  omega
end

section
open Go.RowKit

def cellsOf (ts : List Tok) : List Value := ts.flatMap tokCells

def TokPost (r : LexRes) (w : World) (e : Ending) (w' : World) : Prop :=
  match r with
  | .error (p, c) => e = .returned (.tuple #[.slice none 0 0, .int .i64 p, .int .i64 c]) ∧ Below w.heap.size w w'
  | .ok ts => ∃ v, e = .returned (.tuple #[v, .int .i64 0, .int .i64 0]) ∧ w'.ownsRow w.heap.size 75 4 v ts.length (cellsOf ts) ∧ Below w.heap.size w w'

/- What holds at the head of each round of the loop. -/
def TokRel (s : ByteArray) (w : World) (g : Nat) (v a : Value) (wr : World) : Prop :=
  ∃ (k : Nat) (ts : List Tok), k ≤ s.size ∧ s.size ≤ k + g ∧ a = .int .i64 k ∧ wr.ownsRow w.heap.size 75 4 v ts.length (cellsOf ts) ∧ Below w.heap.size w wr ∧ ts.length ≤ k ∧ lexFrom s 0 = more ts (lexFrom s k)

theorem Tryd.infoTok : (Tryd.prog.info? 75).map (fun i => (i.zero, i.size, i.bytes)) = some (some (.agg #[.int .i64 0, .string ⟨#[]⟩, .int .i64 0, .int .i64 0]), 4, 40) := by kernel_rfl

theorem grown_of_below {a w : World} (h : Below a.heap.size a w) (row : Option Nat) : a.grownBy w row := ⟨h.os, h.tape, h.output, h.size, fun i hi _ => h.block i hi⟩

theorem own_below {a w : World} {base : Nat} {e : TypeId} {size n : Nat} {v : Value} {xs : List Value} (h : a.ownsRow base e size v n xs) (hb : Below a.heap.size a w) : w.ownsRow base e size v n xs := by
  refine h.kept (grown_of_below hb none) ?_
  cases v.ownBlock
  · exact .inl rfl
  · exact .inr (by simp)

theorem cellsOf_snoc (ts : List Tok) (t : Tok) : cellsOf (ts ++ [t]) = cellsOf ts ++ tokCells t := by simp [cellsOf]

theorem tokCells_one (t : Tok) : ∀ u ∈ tokCells t, u.oneCell' = true := by
  intro u hu
  simp only [tokCells, List.mem_cons, List.not_mem_nil, or_false] at hu
  rcases hu with rfl | rfl | rfl | rfl <;> rfl

theorem tokCells_at (t : Tok) (w : World) (e : TypeId) (b : Nat) (hb : b = w.heap.size) : ∀ j u, (tokCells t)[j]? = some u →
    (w.alloc (.cells #[.int .i64 t.kind, .string t.text, .int .i64 t.num, .int .i64 t.place] e)).cell? ((⟨b, 0, none⟩ : Addr).add j) = some u := by
  intro j u hj
  subst hb
  rw [Addr.add_mid, Nat.zero_add, cell_of_row _ _ _ _ _ _ (heap_alloc_new w _)]
  simpa [tokCells] using hj

theorem byteAgg (w : World) : (isAgg 5).run Tryd.prog w = .ok false w := by
  unfold isAgg
  rw [Sem.run_bind, run_underlying Tryd.underlying5 w]
  rfl
theorem byteSize : (Tryd.prog.info? 5).map (·.size) = some 1 := by kernel_rfl
theorem blank0 (w : World) : (Instr.index 70 (.agg #[.int .u8 32, .int .u8 10]) (.int .i64 0)).run Tryd.prog w = .ok (.int .u8 32) w :=
  run_index_agg (P := Tryd.prog) (cs := [.int .u8 32, .int .u8 10]) (k := 0) Tryd.underlying70 byteAgg byteSize (by omega) rfl w
theorem blank1 (w : World) : (Instr.index 70 (.agg #[.int .u8 32, .int .u8 10]) (.int .i64 1)).run Tryd.prog w = .ok (.int .u8 10) w :=
  run_index_agg (P := Tryd.prog) (cs := [.int .u8 32, .int .u8 10]) (k := 1) Tryd.underlying70 byteAgg byteSize (by omega) rfl w

theorem byte_eq {b : UInt8} {n : Nat} (h : ((b.toNat : Int) == (n : Int)) = true) : b = n.toUInt8 := by
  have h1 : b.toNat = n := by have := beq_iff_eq.1 h; omega
  rw [← h1]
  simp
theorem byte_ne {b c : UInt8} (h : ((b.toNat : Int) == (c.toNat : Int)) = false) : ¬ b = c := by
  intro e
  subst e
  simp at h
theorem blank_32 {b : UInt8} (h : ((b.toNat : Int) == 32) = true) : isBlank b = true := by
  have := byte_eq (n := 32) h
  subst this
  rfl
theorem blank_10 {b : UInt8} (h : ((b.toNat : Int) == 10) = true) : isBlank b = true := by
  have := byte_eq (n := 10) h
  subst this
  rfl
theorem blank_no {b : UInt8} (h : ((b.toNat : Int) == 32) = false) (h2 : ((b.toNat : Int) == 10) = false) : isBlank b = false := by
  have h1 := byte_ne (c := 32) h
  have h3 := byte_ne (c := 10) h2
  simp [isBlank, h1, h3]

theorem tokAt_err {s : ByteArray} {k : Nat} {e : Int} (h : tokAt s k = .error e) : 11 ≤ e ∧ e ≤ 13 := by
  have hs : ∀ n, signFrom s k n = .error e → e = 11 := by
    intro n
    induction n with
    | zero => unfold signFrom signEnd; split <;> intro h <;> cases h; rfl
    | succ n ih => unfold signFrom; split
                   · intro h; cases h
                   · exact ih
  unfold tokAt at h
  split at h
  · unfold wordTok at h
    split at h
    · cases h; decide
    · split at h <;> cases h
  · split at h
    · unfold numTok at h
      split at h <;> cases h
      decide
    · rw [hs 3 h]; decide

set_option maxHeartbeats 1000000 in
theorem tokens_any (s : ByteArray) (w : World) (hs : s.size ≤ maxLen) (ht : Tabs w) :
    Calls Tryd.prog 15 #[.string s] w fun e w' => TokPost (lexAll s) w e w' := by
  by_cases hbig : 16384 < s.size
  · have hbig' : 16384 < (s.size : Int) := by omega
    have hr : lexAll s = .error (0, 10) := by unfold lexAll; rw [if_pos hbig]
    rw [hr]
    clear hr
    go_enter Tryd.func15, Tryd.ntmps15
    go_wp2
    go_step3
    go_wp2
    (try rw [Exit.noGoto_ret])
    go_ret3
    exact ⟨rfl, Below.refl _ _⟩
  have hr : lexAll s = lexFrom s 0 := by unfold lexAll; rw [if_neg hbig]
  rw [hr]
  clear hr
  have hbig' : ¬ 16384 < (s.size : Int) := by omega
  go_enter Tryd.func15, Tryd.ntmps15
  go_wp2
  go_step3
  go_wp2
  go_step3
  go_wp2
  go_loopg [5, 6] s.size (fun g v a wr => TokRel s w g v a wr)
  case atStart => exact ⟨0, [], by omega, by omega, rfl, World.ownsRow_nil _ _ _ _, Below.refl _ _, by simp, (more_nil _).symm⟩
  case round =>
    obtain ⟨k, ts, hk, hg, rfl, hown, hbel, hlen, hres⟩ := hrel
    have HR := Lib.hid hres
    have htr := ht.below hbel ht.size
    have hb0 := htr.b0
    have hb1 := htr.b1
    have HOWN := Lib.hid hown
    have HBEL := Lib.hid hbel
    have HT := Lib.hid htr
    clear hres hown hbel htr
    by_cases hlt : k < s.size
    · have hi0 := blank0
      have hi1 := blank1
      cases h32 : ((s[k].toNat : Int) == 32)
      · cases h10 : ((s[k].toNat : Int) == 10)
        · cases h35 : ((s[k].toNat : Int) == 35)
          · have hnb : isBlank (bat s k) = false := by rw [bat_eq s k hlt]; exact blank_no h32 h10
            have hnr : ¬ bat s k = 35 := by rw [bat_eq s k hlt]; exact byte_ne h35
            cases hta : tokAt s k with
            | error e0 =>
              have HE := Lib.hid (lex_err hlt hnb hnr hta)
              have hte := tokAt_err hta
              have HA := Lib.hid hta
              clear hta hnb hnr
              have hne : (e0 != 0) = true := by rw [bne_iff_ne]; omega
              go_wp2_with fail
              refine wp_loop_rounds 3 ?_
              rw [rounds_succ]
              go_wp2_with fail
              rw [rounds_succ]
              go_wp2_with fail
              rw [rounds_succ]
              go_wp2_with fail
              refine (tokenAt_any s k _ hs hlt HT.out).mono ?_
              rintro e w1 ⟨rfl, hb⟩
              rw [HA.out]
              unfold resR errR tokV
              have HB := Lib.hid (HBEL.out.trans (hb.mono HBEL.out.size))
              obtain ⟨hc, hf⟩ := bcell hb
              clear hb
              go_wp2
              (try rw [Exit.noGoto_ret])
              go_ret3
              rw [HR.out, HE.out]
              refine ⟨rfl, ?_⟩
              have hz : w.heap.size ≤ w1.heap.size := HB.out.size
              exact HB.out.alloc hz _
            | ok t =>
              have hsz := tokAt_size hlt hta
              have HE := Lib.hid (lex_tok hlt hnb hnr hta)
              have HA := Lib.hid hta
              clear hta hnb hnr
              go_wp2_with fail
              refine wp_loop_rounds 3 ?_
              rw [rounds_succ]
              go_wp2_with fail
              rw [rounds_succ]
              go_wp2_with fail
              rw [rounds_succ]
              go_wp2_with fail
              refine (tokenAt_any s k _ hs hlt HT.out).mono ?_
              rintro e w1 ⟨rfl, hb⟩
              rw [HA.out]
              unfold resR okR tokV
              have HB := Lib.hid (HBEL.out.trans (hb.mono HBEL.out.size))
              have HO := Lib.hid (own_below HOWN.out hb)
              obtain ⟨hc, hf⟩ := bcell hb
              have hz : w.heap.size ≤ w1.heap.size := HB.out.size
              clear hb
              obtain ⟨i0, hi, hz0, hz1, hz2⟩ := info_parts Tryd.infoTok
              go_wp2_with (at_builtin; refine wpList_append_own _ rfl (.tmp 47) (.tmp 49) 56 rfl w.heap.size 75 i0 _ 4 40 Tryd.underlying56 hi hz0 hz1 hz2 rfl (by decide) _ _ _ rfl ((HO.out.alloc _).alloc _) ⟨w1.heap.size + 1, 0, none⟩ 1 1 (tokCells t) rfl rfl ?c1 (tokCells_one t) ?c3 ?c4 ?c5 ?_)
              case c1 => exact tokCells_at t _ _ _ (by simp)
              case c3 => unfold maxLen; omega
              case c4 => omega
              case c5 => simp; omega
              intro v' w2 hown2 hgrow2 _
              have HO2 := Lib.hid hown2
              have HG2 := Lib.hid (((HB.out.alloc hz _).alloc (by simp; omega) _).grown hgrow2 (by simp; omega) (fun j hj => (HO.out.lt j hj).1))
              have htc : w2.cell? ⟨w1.heap.size, 1, none⟩ = some (.string t.text) :=
                hgrow2.cell ((World.cell?_alloc_past _ _ _ (by simp)).trans (cell_of_row _ _ _ _ _ _ (heap_alloc_new w1 _))) (fun h => absurd ((HO.out.lt _ h.symm).2) (Nat.lt_irrefl _))
              clear hown2 hgrow2
              have hsz1 := hsz.1
              have hsz2 := hsz.2
              have hbs : s.size ≤ 16384 := by omega
              clear hsz
              go_wp2
              go_roundg (gk - 1)
              case measure => omega
              case rel => exact ⟨k + t.text.size, ts ++ [t], by omega, by omega, by go_num, by rw [cellsOf_snoc]; simpa using HO2.out, HG2.out, by simp; omega, HR.out.trans (by rw [HE.out, more_more])⟩
          · have hnr : bat s k = 35 := by rw [bat_eq s k hlt]; exact byte_eq h35
            have HE := Lib.hid (lex_remark hlt hnr)
            have hge := remark_gt hlt hnr
            have hle := endOf_le isRI s k (by omega)
            go_wp2_with fail
            refine wp_loop_rounds 3 ?_
            rw [rounds_succ]
            go_wp2_with fail
            rw [rounds_succ]
            go_wp2_with fail
            rw [rounds_succ]
            go_wp2_with fail
            refine (runEnd_remark s k wr hs (by omega) (by omega)).mono ?_
            rintro e w' ⟨rfl, rfl⟩
            go_wp2
            go_roundg (gk - 1)
            case measure => omega
            case rel => exact ⟨endOf isRI s k, ts, by omega, by omega, rfl, HOWN.out, HBEL.out, by omega, HR.out.trans (by rw [HE.out])⟩
        · have HE := Lib.hid (lex_blank hlt (by rw [bat_eq s k hlt]; exact blank_10 h10))
          go_wp2_with fail
          refine wp_loop_rounds 3 ?_
          rw [rounds_succ]
          go_wp2_with fail
          rw [rounds_succ]
          go_wp2_with fail
          go_roundg (gk - 1)
          case measure => omega
          case rel => exact ⟨k + 1, ts, by omega, by omega, by go_num, HOWN.out, HBEL.out, by omega, HR.out.trans (by rw [HE.out])⟩
      · have HE := Lib.hid (lex_blank hlt (by rw [bat_eq s k hlt]; exact blank_32 h32))
        go_wp2_with fail
        refine wp_loop_rounds 3 ?_
        rw [rounds_succ]
        go_wp2_with fail
        go_roundg (gk - 1)
        case measure => omega
        case rel => exact ⟨k + 1, ts, by omega, by omega, by go_num, HOWN.out, HBEL.out, by omega, HR.out.trans (by rw [HE.out])⟩
    · have HE := Lib.hid (lex_end (s := s) (k := k) (by omega))
      have hz : w.heap.size ≤ wr.heap.size := HBEL.out.size
      have hbs : s.size ≤ 16384 := by omega
      obtain ⟨i0, hi, hz0, hz1, hz2⟩ := info_parts Tryd.infoTok
      go_wp2_with (at_builtin; refine wpList_append_own _ rfl (.tmp 56) (.tmp 60) 56 rfl w.heap.size 75 i0 _ 4 40 Tryd.underlying56 hi hz0 hz1 hz2 rfl (by decide) _ _ _ rfl (HOWN.out.alloc _) ⟨wr.heap.size, 0, none⟩ 1 1 (tokCells (endTok s)) rfl rfl ?d1 (tokCells_one (endTok s)) ?d3 ?d4 ?d5 ?_)
      case d1 => exact tokCells_at (endTok s) _ _ _ rfl
      case d3 => unfold maxLen; omega
      case d4 => omega
      case d5 => simp; omega
      intro v' w2 hown2 hgrow2 _
      have HO2 := Lib.hid hown2
      have HG2 := Lib.hid ((HBEL.out.alloc hz _).grown hgrow2 (by simp; omega) (fun j hj => (HOWN.out.lt j hj).1))
      clear hown2 hgrow2
      go_wp2
      (try rw [Exit.noGoto_ret])
      go_ret3
      rw [HR.out, HE.out]
      exact ⟨v', rfl, by rw [cellsOf_snoc]; simpa using HO2.out, HG2.out⟩
end

end Go.Proofs.YtdkdidgeaalcgaaDoor
