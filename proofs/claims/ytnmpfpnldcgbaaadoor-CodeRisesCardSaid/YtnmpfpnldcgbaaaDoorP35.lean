/- What a reader leaves over is an end of the tokens it was given; the statements of each function's block stand at rising places. Nothing of the program is walked here. -/
import Derived.Test.YtnmpfpnldcgbaaaDoorP26
import Derived.Test.YtnmpfpnldcgbaaaDoorP34
import Derived.Test.YtnmpfpnldcgbaaaDoorP22
namespace Go.Proofs.YtnmpfpnldcgbaaaDoor
open Go.RowKit

def Suf (l l' : List Tok) : Prop := ∃ n, l' = l.drop n
def SufR {α : Type} (l : List Tok) (_ : α) (l' : List Tok) : Prop := Suf l l'
theorem Suf.refl (l : List Tok) : Suf l l := ⟨0, rfl⟩
theorem Suf.tail {l l' : List Tok} (h : Suf l l') : Suf l l'.tail := by
  obtain ⟨n, rfl⟩ := h
  exact ⟨n + 1, by rw [List.tail_drop]⟩
theorem Suf.trans {a b c : List Tok} (h : Suf a b) (h' : Suf b c) : Suf a c := by
  obtain ⟨n, rfl⟩ := h
  obtain ⟨m, rfl⟩ := h'
  exact ⟨n + m, by rw [List.drop_drop]⟩
theorem Suf.mem {l l' : List Tok} (h : Suf l l') {t : Tok} (ht : t ∈ l') : t ∈ l := by
  obtain ⟨n, rfl⟩ := h
  exact List.mem_of_mem_drop ht
theorem Suf.bd {α β : Type} {l l1 : List Tok} {r : R α} {f : α → List Tok → R β} (hr : Ok (SufR l1) r) (hs : Suf l l1) (hf : ∀ a l2, Suf l l2 → Ok (SufR l) (f a l2)) : Ok (SufR l) (bd r f) :=
  Ok.bd hr fun a l2 h => hf a l2 (hs.trans h)
theorem Suf.read {α : Type} {l l1 : List Tok} {r : R α} (hr : Ok (SufR l1) r) (hs : Suf l l1) : Ok (SufR l) r := hr.mono fun _ _ h => hs.trans h
theorem Suf.done {α : Type} {l l1 : List Tok} (a : α) (hs : Suf l l1) : Ok (SufR l) (.ok (a, l1)) := Ok.ok hs
theorem Suf.cond {α : Type} {l : List Tok} {b : Bool} {x y : R α} (hx : Ok (SufR l) x) (hy : Ok (SufR l) y) : Ok (SufR l) (bif b then x else y) := Ok.cond (fun _ => hx) (fun _ => hy)
theorem Suf.sum {l : List Tok} {s : Option (Int × Int)} {a : R T} {f : Int → Int → R T} (ha : Ok (SufR l) a) (hf : ∀ k x, Ok (SufR l) (f k x)) : Ok (SufR l) (sumK s a f) := Ok.sum (fun _ => ha) (fun k x _ => hf k x)

theorem expect_u (ss : List ByteArray) (l : List Tok) : Ok (SufR l) (expectP ss l) := by
  unfold expectP
  repeat (first
    | with_reducible exact Ok.err
    | with_reducible exact Suf.done _ (by first | exact Suf.refl _ | assumption | exact Suf.tail (Suf.refl _) | exact Suf.tail (by assumption) | exact Suf.tail (Suf.tail (Suf.refl _)))
    | with_reducible refine Suf.cond ?_ ?_
    | with_reducible refine Suf.sum ?_ (fun _ _ => ?_)
)
theorem kind_u (k : Nat) (l : List Tok) : Ok (SufR l) (kindP k l) := by
  unfold kindP
  repeat (first
    | with_reducible exact Ok.err
    | with_reducible exact Suf.done _ (by first | exact Suf.refl _ | assumption | exact Suf.tail (Suf.refl _) | exact Suf.tail (by assumption) | exact Suf.tail (Suf.tail (Suf.refl _)))
    | with_reducible refine Suf.cond ?_ ?_
    | with_reducible refine Suf.sum ?_ (fun _ _ => ?_)
)
theorem name_u (l : List Tok) : Ok (SufR l) (nameP l) := by
  unfold nameP
  repeat (first
    | with_reducible exact Ok.err
    | with_reducible exact Suf.done _ (by first | exact Suf.refl _ | assumption | exact Suf.tail (Suf.refl _) | exact Suf.tail (by assumption) | exact Suf.tail (Suf.tail (Suf.refl _)))
    | with_reducible refine Suf.cond ?_ ?_
    | with_reducible refine Suf.sum ?_ (fun _ _ => ?_)
    | with_reducible refine Suf.bd (kind_u _ _) (by first | exact Suf.refl _ | assumption | exact Suf.tail (Suf.refl _) | exact Suf.tail (by assumption) | exact Suf.tail (Suf.tail (Suf.refl _))) (fun _ _ _ => ?_)
    | with_reducible exact Suf.read (kind_u _ _) (by first | exact Suf.refl _ | assumption | exact Suf.tail (Suf.refl _) | exact Suf.tail (by assumption) | exact Suf.tail (Suf.tail (Suf.refl _))))
theorem number_u (l : List Tok) : Ok (SufR l) (numberP l) := by
  unfold numberP
  repeat (first
    | with_reducible exact Ok.err
    | with_reducible exact Suf.done _ (by first | exact Suf.refl _ | assumption | exact Suf.tail (Suf.refl _) | exact Suf.tail (by assumption) | exact Suf.tail (Suf.tail (Suf.refl _)))
    | with_reducible refine Suf.cond ?_ ?_
    | with_reducible refine Suf.sum ?_ (fun _ _ => ?_)
    | with_reducible refine Suf.bd (kind_u _ _) (by first | exact Suf.refl _ | assumption | exact Suf.tail (Suf.refl _) | exact Suf.tail (by assumption) | exact Suf.tail (Suf.tail (Suf.refl _))) (fun _ _ _ => ?_)
    | with_reducible exact Suf.read (kind_u _ _) (by first | exact Suf.refl _ | assumption | exact Suf.tail (Suf.refl _) | exact Suf.tail (by assumption) | exact Suf.tail (Suf.tail (Suf.refl _))))
theorem nameTerm_u (l : List Tok) : Ok (SufR l) (nameTermP l) := by
  unfold nameTermP
  repeat (first
    | with_reducible exact Ok.err
    | with_reducible exact Suf.done _ (by first | exact Suf.refl _ | assumption | exact Suf.tail (Suf.refl _) | exact Suf.tail (by assumption) | exact Suf.tail (Suf.tail (Suf.refl _)))
    | with_reducible refine Suf.cond ?_ ?_
    | with_reducible refine Suf.sum ?_ (fun _ _ => ?_)
    | with_reducible refine Suf.bd (name_u _) (by first | exact Suf.refl _ | assumption | exact Suf.tail (Suf.refl _) | exact Suf.tail (by assumption) | exact Suf.tail (Suf.tail (Suf.refl _))) (fun _ _ _ => ?_)
    | with_reducible exact Suf.read (name_u _) (by first | exact Suf.refl _ | assumption | exact Suf.tail (Suf.refl _) | exact Suf.tail (by assumption) | exact Suf.tail (Suf.tail (Suf.refl _))))
theorem numberTerm_u (l : List Tok) : Ok (SufR l) (numberTermP l) := by
  unfold numberTermP
  repeat (first
    | with_reducible exact Ok.err
    | with_reducible exact Suf.done _ (by first | exact Suf.refl _ | assumption | exact Suf.tail (Suf.refl _) | exact Suf.tail (by assumption) | exact Suf.tail (Suf.tail (Suf.refl _)))
    | with_reducible refine Suf.cond ?_ ?_
    | with_reducible refine Suf.sum ?_ (fun _ _ => ?_)
    | with_reducible refine Suf.bd (number_u _) (by first | exact Suf.refl _ | assumption | exact Suf.tail (Suf.refl _) | exact Suf.tail (by assumption) | exact Suf.tail (Suf.tail (Suf.refl _))) (fun _ _ _ => ?_)
    | with_reducible exact Suf.read (number_u _) (by first | exact Suf.refl _ | assumption | exact Suf.tail (Suf.refl _) | exact Suf.tail (by assumption) | exact Suf.tail (Suf.tail (Suf.refl _))))
theorem term_u (l : List Tok) : Ok (SufR l) (termP l) := by
  unfold termP
  repeat (first
    | with_reducible exact Ok.err
    | with_reducible exact Suf.done _ (by first | exact Suf.refl _ | assumption | exact Suf.tail (Suf.refl _) | exact Suf.tail (by assumption) | exact Suf.tail (Suf.tail (Suf.refl _)))
    | with_reducible refine Suf.cond ?_ ?_
    | with_reducible refine Suf.sum ?_ (fun _ _ => ?_)
    | with_reducible refine Suf.bd (number_u _) (by first | exact Suf.refl _ | assumption | exact Suf.tail (Suf.refl _) | exact Suf.tail (by assumption) | exact Suf.tail (Suf.tail (Suf.refl _))) (fun _ _ _ => ?_)
    | with_reducible exact Suf.read (number_u _) (by first | exact Suf.refl _ | assumption | exact Suf.tail (Suf.refl _) | exact Suf.tail (by assumption) | exact Suf.tail (Suf.tail (Suf.refl _)))
    | with_reducible refine Suf.bd (nameTerm_u _) (by first | exact Suf.refl _ | assumption | exact Suf.tail (Suf.refl _) | exact Suf.tail (by assumption) | exact Suf.tail (Suf.tail (Suf.refl _))) (fun _ _ _ => ?_)
    | with_reducible exact Suf.read (nameTerm_u _) (by first | exact Suf.refl _ | assumption | exact Suf.tail (Suf.refl _) | exact Suf.tail (by assumption) | exact Suf.tail (Suf.tail (Suf.refl _)))
    | with_reducible refine Suf.bd (numberTerm_u _) (by first | exact Suf.refl _ | assumption | exact Suf.tail (Suf.refl _) | exact Suf.tail (by assumption) | exact Suf.tail (Suf.tail (Suf.refl _))) (fun _ _ _ => ?_)
    | with_reducible exact Suf.read (numberTerm_u _) (by first | exact Suf.refl _ | assumption | exact Suf.tail (Suf.refl _) | exact Suf.tail (by assumption) | exact Suf.tail (Suf.tail (Suf.refl _))))
theorem listF_u {item : List Tok → R T} (hi : ∀ l, Ok (SufR l) (item l)) : ∀ (n : Nat) (l : List Tok), Ok (SufR l) (listF item n l)
  | 0, l => Ok.err
  | n + 1, l => by
    rw [listF]
    exact Suf.cond (Suf.bd (hi _) (Suf.tail (Suf.refl _)) fun a l1 h => Suf.bd (listF_u hi n l1) h fun xs l2 h2 => Suf.done _ h2) (Suf.done _ (Suf.refl _))
theorem list_u {item : List Tok → R T} (hi : ∀ l, Ok (SufR l) (item l)) (l : List Tok) : Ok (SufR l) (listP item l) := by
  unfold listP
  exact Suf.bd (hi l) (Suf.refl _) fun a l1 h => Suf.bd (listF_u hi _ l1) h fun xs l2 h2 => Suf.done _ h2
theorem parens_u {item : List Tok → R T} (hi : ∀ l, Ok (SufR l) (item l)) (l : List Tok) : Ok (SufR l) (parensP item l) := by
  unfold parensP
  exact Suf.bd (expect_u _ l) (Suf.refl _) fun _ l1 h => Suf.cond (Suf.done _ h.tail) (Suf.bd (list_u hi l1) h fun xs l2 h2 => Suf.bd (expect_u _ l2) h2 fun _ l3 h3 => Suf.done _ h3)
theorem index_u (l : List Tok) : Ok (SufR l) (indexP l) := by
  unfold indexP
  repeat (first
    | with_reducible exact Ok.err
    | with_reducible exact Suf.done _ (by first | exact Suf.refl _ | assumption | exact Suf.tail (Suf.refl _) | exact Suf.tail (by assumption) | exact Suf.tail (Suf.tail (Suf.refl _)))
    | with_reducible refine Suf.cond ?_ ?_
    | with_reducible refine Suf.sum ?_ (fun _ _ => ?_)
    | with_reducible refine Suf.bd (expect_u _ _) (by first | exact Suf.refl _ | assumption | exact Suf.tail (Suf.refl _) | exact Suf.tail (by assumption) | exact Suf.tail (Suf.tail (Suf.refl _))) (fun _ _ _ => ?_)
    | with_reducible exact Suf.read (expect_u _ _) (by first | exact Suf.refl _ | assumption | exact Suf.tail (Suf.refl _) | exact Suf.tail (by assumption) | exact Suf.tail (Suf.tail (Suf.refl _)))
    | with_reducible refine Suf.bd (term_u _) (by first | exact Suf.refl _ | assumption | exact Suf.tail (Suf.refl _) | exact Suf.tail (by assumption) | exact Suf.tail (Suf.tail (Suf.refl _))) (fun _ _ _ => ?_)
    | with_reducible exact Suf.read (term_u _) (by first | exact Suf.refl _ | assumption | exact Suf.tail (Suf.refl _) | exact Suf.tail (by assumption) | exact Suf.tail (Suf.tail (Suf.refl _))))
theorem call_u (n : T) (l : List Tok) : Ok (SufR l) (callP n l) := by
  unfold callP
  repeat (first
    | with_reducible exact Ok.err
    | with_reducible exact Suf.done _ (by first | exact Suf.refl _ | assumption | exact Suf.tail (Suf.refl _) | exact Suf.tail (by assumption) | exact Suf.tail (Suf.tail (Suf.refl _)))
    | with_reducible refine Suf.cond ?_ ?_
    | with_reducible refine Suf.sum ?_ (fun _ _ => ?_)
    | with_reducible refine Suf.bd (term_u _) (by first | exact Suf.refl _ | assumption | exact Suf.tail (Suf.refl _) | exact Suf.tail (by assumption) | exact Suf.tail (Suf.tail (Suf.refl _))) (fun _ _ _ => ?_)
    | with_reducible exact Suf.read (term_u _) (by first | exact Suf.refl _ | assumption | exact Suf.tail (Suf.refl _) | exact Suf.tail (by assumption) | exact Suf.tail (Suf.tail (Suf.refl _)))
    | with_reducible refine Suf.bd (parens_u term_u _) (by first | exact Suf.refl _ | assumption | exact Suf.tail (Suf.refl _) | exact Suf.tail (by assumption) | exact Suf.tail (Suf.tail (Suf.refl _))) (fun _ _ _ => ?_)
    | with_reducible exact Suf.read (parens_u term_u _) (by first | exact Suf.refl _ | assumption | exact Suf.tail (Suf.refl _) | exact Suf.tail (by assumption) | exact Suf.tail (Suf.tail (Suf.refl _))))
theorem ref_u (p : Nat) (l : List Tok) : Ok (SufR l) (refP p l) := by
  unfold refP
  repeat (first
    | with_reducible exact Ok.err
    | with_reducible exact Suf.done _ (by first | exact Suf.refl _ | assumption | exact Suf.tail (Suf.refl _) | exact Suf.tail (by assumption) | exact Suf.tail (Suf.tail (Suf.refl _)))
    | with_reducible refine Suf.cond ?_ ?_
    | with_reducible refine Suf.sum ?_ (fun _ _ => ?_)
    | with_reducible refine Suf.bd (name_u _) (by first | exact Suf.refl _ | assumption | exact Suf.tail (Suf.refl _) | exact Suf.tail (by assumption) | exact Suf.tail (Suf.tail (Suf.refl _))) (fun _ _ _ => ?_)
    | with_reducible exact Suf.read (name_u _) (by first | exact Suf.refl _ | assumption | exact Suf.tail (Suf.refl _) | exact Suf.tail (by assumption) | exact Suf.tail (Suf.tail (Suf.refl _))))
theorem nameExpr_u (l : List Tok) : Ok (SufR l) (nameExprP l) := by
  unfold nameExprP
  repeat (first
    | with_reducible exact Ok.err
    | with_reducible exact Suf.done _ (by first | exact Suf.refl _ | assumption | exact Suf.tail (Suf.refl _) | exact Suf.tail (by assumption) | exact Suf.tail (Suf.tail (Suf.refl _)))
    | with_reducible refine Suf.cond ?_ ?_
    | with_reducible refine Suf.sum ?_ (fun _ _ => ?_)
    | with_reducible refine Suf.bd (number_u _) (by first | exact Suf.refl _ | assumption | exact Suf.tail (Suf.refl _) | exact Suf.tail (by assumption) | exact Suf.tail (Suf.tail (Suf.refl _))) (fun _ _ _ => ?_)
    | with_reducible exact Suf.read (number_u _) (by first | exact Suf.refl _ | assumption | exact Suf.tail (Suf.refl _) | exact Suf.tail (by assumption) | exact Suf.tail (Suf.tail (Suf.refl _)))
    | with_reducible refine Suf.bd (nameTerm_u _) (by first | exact Suf.refl _ | assumption | exact Suf.tail (Suf.refl _) | exact Suf.tail (by assumption) | exact Suf.tail (Suf.tail (Suf.refl _))) (fun _ _ _ => ?_)
    | with_reducible exact Suf.read (nameTerm_u _) (by first | exact Suf.refl _ | assumption | exact Suf.tail (Suf.refl _) | exact Suf.tail (by assumption) | exact Suf.tail (Suf.tail (Suf.refl _)))
    | with_reducible refine Suf.bd (index_u _) (by first | exact Suf.refl _ | assumption | exact Suf.tail (Suf.refl _) | exact Suf.tail (by assumption) | exact Suf.tail (Suf.tail (Suf.refl _))) (fun _ _ _ => ?_)
    | with_reducible exact Suf.read (index_u _) (by first | exact Suf.refl _ | assumption | exact Suf.tail (Suf.refl _) | exact Suf.tail (by assumption) | exact Suf.tail (Suf.tail (Suf.refl _)))
    | with_reducible refine Suf.bd (call_u _ _) (by first | exact Suf.refl _ | assumption | exact Suf.tail (Suf.refl _) | exact Suf.tail (by assumption) | exact Suf.tail (Suf.tail (Suf.refl _))) (fun _ _ _ => ?_)
    | with_reducible exact Suf.read (call_u _ _) (by first | exact Suf.refl _ | assumption | exact Suf.tail (Suf.refl _) | exact Suf.tail (by assumption) | exact Suf.tail (Suf.tail (Suf.refl _))))
theorem expr_u (l : List Tok) : Ok (SufR l) (exprP l) := by
  unfold exprP
  repeat (first
    | with_reducible exact Ok.err
    | with_reducible exact Suf.done _ (by first | exact Suf.refl _ | assumption | exact Suf.tail (Suf.refl _) | exact Suf.tail (by assumption) | exact Suf.tail (Suf.tail (Suf.refl _)))
    | with_reducible refine Suf.cond ?_ ?_
    | with_reducible refine Suf.sum ?_ (fun _ _ => ?_)
    | with_reducible refine Suf.bd (name_u _) (by first | exact Suf.refl _ | assumption | exact Suf.tail (Suf.refl _) | exact Suf.tail (by assumption) | exact Suf.tail (Suf.tail (Suf.refl _))) (fun _ _ _ => ?_)
    | with_reducible exact Suf.read (name_u _) (by first | exact Suf.refl _ | assumption | exact Suf.tail (Suf.refl _) | exact Suf.tail (by assumption) | exact Suf.tail (Suf.tail (Suf.refl _)))
    | with_reducible refine Suf.bd (number_u _) (by first | exact Suf.refl _ | assumption | exact Suf.tail (Suf.refl _) | exact Suf.tail (by assumption) | exact Suf.tail (Suf.tail (Suf.refl _))) (fun _ _ _ => ?_)
    | with_reducible exact Suf.read (number_u _) (by first | exact Suf.refl _ | assumption | exact Suf.tail (Suf.refl _) | exact Suf.tail (by assumption) | exact Suf.tail (Suf.tail (Suf.refl _)))
    | with_reducible refine Suf.bd (numberTerm_u _) (by first | exact Suf.refl _ | assumption | exact Suf.tail (Suf.refl _) | exact Suf.tail (by assumption) | exact Suf.tail (Suf.tail (Suf.refl _))) (fun _ _ _ => ?_)
    | with_reducible exact Suf.read (numberTerm_u _) (by first | exact Suf.refl _ | assumption | exact Suf.tail (Suf.refl _) | exact Suf.tail (by assumption) | exact Suf.tail (Suf.tail (Suf.refl _)))
    | with_reducible refine Suf.bd (ref_u _ _) (by first | exact Suf.refl _ | assumption | exact Suf.tail (Suf.refl _) | exact Suf.tail (by assumption) | exact Suf.tail (Suf.tail (Suf.refl _))) (fun _ _ _ => ?_)
    | with_reducible exact Suf.read (ref_u _ _) (by first | exact Suf.refl _ | assumption | exact Suf.tail (Suf.refl _) | exact Suf.tail (by assumption) | exact Suf.tail (Suf.tail (Suf.refl _)))
    | with_reducible refine Suf.bd (nameExpr_u _) (by first | exact Suf.refl _ | assumption | exact Suf.tail (Suf.refl _) | exact Suf.tail (by assumption) | exact Suf.tail (Suf.tail (Suf.refl _))) (fun _ _ _ => ?_)
    | with_reducible exact Suf.read (nameExpr_u _) (by first | exact Suf.refl _ | assumption | exact Suf.tail (Suf.refl _) | exact Suf.tail (by assumption) | exact Suf.tail (Suf.tail (Suf.refl _))))
theorem compare_u (k : Int) (p : Nat) (l : List Tok) : Ok (SufR l) (compareP k p l) := by
  unfold compareP
  repeat (first
    | with_reducible exact Ok.err
    | with_reducible exact Suf.done _ (by first | exact Suf.refl _ | assumption | exact Suf.tail (Suf.refl _) | exact Suf.tail (by assumption) | exact Suf.tail (Suf.tail (Suf.refl _)))
    | with_reducible refine Suf.cond ?_ ?_
    | with_reducible refine Suf.sum ?_ (fun _ _ => ?_)
    | with_reducible refine Suf.bd (expect_u _ _) (by first | exact Suf.refl _ | assumption | exact Suf.tail (Suf.refl _) | exact Suf.tail (by assumption) | exact Suf.tail (Suf.tail (Suf.refl _))) (fun _ _ _ => ?_)
    | with_reducible exact Suf.read (expect_u _ _) (by first | exact Suf.refl _ | assumption | exact Suf.tail (Suf.refl _) | exact Suf.tail (by assumption) | exact Suf.tail (Suf.tail (Suf.refl _)))
    | with_reducible refine Suf.bd (term_u _) (by first | exact Suf.refl _ | assumption | exact Suf.tail (Suf.refl _) | exact Suf.tail (by assumption) | exact Suf.tail (Suf.tail (Suf.refl _))) (fun _ _ _ => ?_)
    | with_reducible exact Suf.read (term_u _) (by first | exact Suf.refl _ | assumption | exact Suf.tail (Suf.refl _) | exact Suf.tail (by assumption) | exact Suf.tail (Suf.tail (Suf.refl _))))
theorem fact_u (l : List Tok) : Ok (SufR l) (factP l) := by
  unfold factP
  repeat (first
    | with_reducible exact Ok.err
    | with_reducible exact Suf.done _ (by first | exact Suf.refl _ | assumption | exact Suf.tail (Suf.refl _) | exact Suf.tail (by assumption) | exact Suf.tail (Suf.tail (Suf.refl _)))
    | with_reducible refine Suf.cond ?_ ?_
    | with_reducible refine Suf.sum ?_ (fun _ _ => ?_)
    | with_reducible refine Suf.bd (compare_u _ _ _) (by first | exact Suf.refl _ | assumption | exact Suf.tail (Suf.refl _) | exact Suf.tail (by assumption) | exact Suf.tail (Suf.tail (Suf.refl _))) (fun _ _ _ => ?_)
    | with_reducible exact Suf.read (compare_u _ _ _) (by first | exact Suf.refl _ | assumption | exact Suf.tail (Suf.refl _) | exact Suf.tail (by assumption) | exact Suf.tail (Suf.tail (Suf.refl _))))
theorem field_u (l : List Tok) : Ok (SufR l) (fieldP l) := by
  unfold fieldP
  repeat (first
    | with_reducible exact Ok.err
    | with_reducible exact Suf.done _ (by first | exact Suf.refl _ | assumption | exact Suf.tail (Suf.refl _) | exact Suf.tail (by assumption) | exact Suf.tail (Suf.tail (Suf.refl _)))
    | with_reducible refine Suf.cond ?_ ?_
    | with_reducible refine Suf.sum ?_ (fun _ _ => ?_)
    | with_reducible refine Suf.bd (expect_u _ _) (by first | exact Suf.refl _ | assumption | exact Suf.tail (Suf.refl _) | exact Suf.tail (by assumption) | exact Suf.tail (Suf.tail (Suf.refl _))) (fun _ _ _ => ?_)
    | with_reducible exact Suf.read (expect_u _ _) (by first | exact Suf.refl _ | assumption | exact Suf.tail (Suf.refl _) | exact Suf.tail (by assumption) | exact Suf.tail (Suf.tail (Suf.refl _)))
    | with_reducible refine Suf.bd (name_u _) (by first | exact Suf.refl _ | assumption | exact Suf.tail (Suf.refl _) | exact Suf.tail (by assumption) | exact Suf.tail (Suf.tail (Suf.refl _))) (fun _ _ _ => ?_)
    | with_reducible exact Suf.read (name_u _) (by first | exact Suf.refl _ | assumption | exact Suf.tail (Suf.refl _) | exact Suf.tail (by assumption) | exact Suf.tail (Suf.tail (Suf.refl _)))
    | with_reducible refine Suf.bd (nameTerm_u _) (by first | exact Suf.refl _ | assumption | exact Suf.tail (Suf.refl _) | exact Suf.tail (by assumption) | exact Suf.tail (Suf.tail (Suf.refl _))) (fun _ _ _ => ?_)
    | with_reducible exact Suf.read (nameTerm_u _) (by first | exact Suf.refl _ | assumption | exact Suf.tail (Suf.refl _) | exact Suf.tail (by assumption) | exact Suf.tail (Suf.tail (Suf.refl _))))
theorem sort_u (l : List Tok) : Ok (SufR l) (sortP l) := by
  unfold sortP
  repeat (first
    | with_reducible exact Ok.err
    | with_reducible exact Suf.done _ (by first | exact Suf.refl _ | assumption | exact Suf.tail (Suf.refl _) | exact Suf.tail (by assumption) | exact Suf.tail (Suf.tail (Suf.refl _)))
    | with_reducible refine Suf.cond ?_ ?_
    | with_reducible refine Suf.sum ?_ (fun _ _ => ?_)
    | with_reducible refine Suf.bd (expect_u _ _) (by first | exact Suf.refl _ | assumption | exact Suf.tail (Suf.refl _) | exact Suf.tail (by assumption) | exact Suf.tail (Suf.tail (Suf.refl _))) (fun _ _ _ => ?_)
    | with_reducible exact Suf.read (expect_u _ _) (by first | exact Suf.refl _ | assumption | exact Suf.tail (Suf.refl _) | exact Suf.tail (by assumption) | exact Suf.tail (Suf.tail (Suf.refl _)))
    | with_reducible refine Suf.bd (nameTerm_u _) (by first | exact Suf.refl _ | assumption | exact Suf.tail (Suf.refl _) | exact Suf.tail (by assumption) | exact Suf.tail (Suf.tail (Suf.refl _))) (fun _ _ _ => ?_)
    | with_reducible exact Suf.read (nameTerm_u _) (by first | exact Suf.refl _ | assumption | exact Suf.tail (Suf.refl _) | exact Suf.tail (by assumption) | exact Suf.tail (Suf.tail (Suf.refl _))))
theorem valueMode_u (l : List Tok) : Ok (SufR l) (valueModeP l) := by
  unfold valueModeP
  repeat (first
    | with_reducible exact Ok.err
    | with_reducible exact Suf.done _ (by first | exact Suf.refl _ | assumption | exact Suf.tail (Suf.refl _) | exact Suf.tail (by assumption) | exact Suf.tail (Suf.tail (Suf.refl _)))
    | with_reducible refine Suf.cond ?_ ?_
    | with_reducible refine Suf.sum ?_ (fun _ _ => ?_)
    | with_reducible refine Suf.bd (expect_u _ _) (by first | exact Suf.refl _ | assumption | exact Suf.tail (Suf.refl _) | exact Suf.tail (by assumption) | exact Suf.tail (Suf.tail (Suf.refl _))) (fun _ _ _ => ?_)
    | with_reducible exact Suf.read (expect_u _ _) (by first | exact Suf.refl _ | assumption | exact Suf.tail (Suf.refl _) | exact Suf.tail (by assumption) | exact Suf.tail (Suf.tail (Suf.refl _)))
    | with_reducible refine Suf.bd (nameTerm_u _) (by first | exact Suf.refl _ | assumption | exact Suf.tail (Suf.refl _) | exact Suf.tail (by assumption) | exact Suf.tail (Suf.tail (Suf.refl _))) (fun _ _ _ => ?_)
    | with_reducible exact Suf.read (nameTerm_u _) (by first | exact Suf.refl _ | assumption | exact Suf.tail (Suf.refl _) | exact Suf.tail (by assumption) | exact Suf.tail (Suf.tail (Suf.refl _))))
theorem mode_u (l : List Tok) : Ok (SufR l) (modeP l) := by
  unfold modeP
  repeat (first
    | with_reducible exact Ok.err
    | with_reducible exact Suf.done _ (by first | exact Suf.refl _ | assumption | exact Suf.tail (Suf.refl _) | exact Suf.tail (by assumption) | exact Suf.tail (Suf.tail (Suf.refl _)))
    | with_reducible refine Suf.cond ?_ ?_
    | with_reducible refine Suf.sum ?_ (fun _ _ => ?_)
    | with_reducible refine Suf.bd (nameTerm_u _) (by first | exact Suf.refl _ | assumption | exact Suf.tail (Suf.refl _) | exact Suf.tail (by assumption) | exact Suf.tail (Suf.tail (Suf.refl _))) (fun _ _ _ => ?_)
    | with_reducible exact Suf.read (nameTerm_u _) (by first | exact Suf.refl _ | assumption | exact Suf.tail (Suf.refl _) | exact Suf.tail (by assumption) | exact Suf.tail (Suf.tail (Suf.refl _)))
    | with_reducible refine Suf.bd (valueMode_u _) (by first | exact Suf.refl _ | assumption | exact Suf.tail (Suf.refl _) | exact Suf.tail (by assumption) | exact Suf.tail (Suf.tail (Suf.refl _))) (fun _ _ _ => ?_)
    | with_reducible exact Suf.read (valueMode_u _) (by first | exact Suf.refl _ | assumption | exact Suf.tail (Suf.refl _) | exact Suf.tail (by assumption) | exact Suf.tail (Suf.tail (Suf.refl _))))
theorem param_u (l : List Tok) : Ok (SufR l) (paramP l) := by
  unfold paramP
  repeat (first
    | with_reducible exact Ok.err
    | with_reducible exact Suf.done _ (by first | exact Suf.refl _ | assumption | exact Suf.tail (Suf.refl _) | exact Suf.tail (by assumption) | exact Suf.tail (Suf.tail (Suf.refl _)))
    | with_reducible refine Suf.cond ?_ ?_
    | with_reducible refine Suf.sum ?_ (fun _ _ => ?_)
    | with_reducible refine Suf.bd (expect_u _ _) (by first | exact Suf.refl _ | assumption | exact Suf.tail (Suf.refl _) | exact Suf.tail (by assumption) | exact Suf.tail (Suf.tail (Suf.refl _))) (fun _ _ _ => ?_)
    | with_reducible exact Suf.read (expect_u _ _) (by first | exact Suf.refl _ | assumption | exact Suf.tail (Suf.refl _) | exact Suf.tail (by assumption) | exact Suf.tail (Suf.tail (Suf.refl _)))
    | with_reducible refine Suf.bd (name_u _) (by first | exact Suf.refl _ | assumption | exact Suf.tail (Suf.refl _) | exact Suf.tail (by assumption) | exact Suf.tail (Suf.tail (Suf.refl _))) (fun _ _ _ => ?_)
    | with_reducible exact Suf.read (name_u _) (by first | exact Suf.refl _ | assumption | exact Suf.tail (Suf.refl _) | exact Suf.tail (by assumption) | exact Suf.tail (Suf.tail (Suf.refl _)))
    | with_reducible refine Suf.bd (mode_u _) (by first | exact Suf.refl _ | assumption | exact Suf.tail (Suf.refl _) | exact Suf.tail (by assumption) | exact Suf.tail (Suf.tail (Suf.refl _))) (fun _ _ _ => ?_)
    | with_reducible exact Suf.read (mode_u _) (by first | exact Suf.refl _ | assumption | exact Suf.tail (Suf.refl _) | exact Suf.tail (by assumption) | exact Suf.tail (Suf.tail (Suf.refl _))))
theorem fields_u (l : List Tok) : Ok (SufR l) (fieldsP l) := by
  unfold fieldsP
  repeat (first
    | with_reducible exact Ok.err
    | with_reducible exact Suf.done _ (by first | exact Suf.refl _ | assumption | exact Suf.tail (Suf.refl _) | exact Suf.tail (by assumption) | exact Suf.tail (Suf.tail (Suf.refl _)))
    | with_reducible refine Suf.cond ?_ ?_
    | with_reducible refine Suf.sum ?_ (fun _ _ => ?_)
    | with_reducible refine Suf.bd (expect_u _ _) (by first | exact Suf.refl _ | assumption | exact Suf.tail (Suf.refl _) | exact Suf.tail (by assumption) | exact Suf.tail (Suf.tail (Suf.refl _))) (fun _ _ _ => ?_)
    | with_reducible exact Suf.read (expect_u _ _) (by first | exact Suf.refl _ | assumption | exact Suf.tail (Suf.refl _) | exact Suf.tail (by assumption) | exact Suf.tail (Suf.tail (Suf.refl _)))
    | with_reducible refine Suf.bd (field_u _) (by first | exact Suf.refl _ | assumption | exact Suf.tail (Suf.refl _) | exact Suf.tail (by assumption) | exact Suf.tail (Suf.tail (Suf.refl _))) (fun _ _ _ => ?_)
    | with_reducible exact Suf.read (field_u _) (by first | exact Suf.refl _ | assumption | exact Suf.tail (Suf.refl _) | exact Suf.tail (by assumption) | exact Suf.tail (Suf.tail (Suf.refl _)))
    | with_reducible refine Suf.bd (list_u field_u _) (by first | exact Suf.refl _ | assumption | exact Suf.tail (Suf.refl _) | exact Suf.tail (by assumption) | exact Suf.tail (Suf.tail (Suf.refl _))) (fun _ _ _ => ?_)
    | with_reducible exact Suf.read (list_u field_u _) (by first | exact Suf.refl _ | assumption | exact Suf.tail (Suf.refl _) | exact Suf.tail (by assumption) | exact Suf.tail (Suf.tail (Suf.refl _))))
theorem facts_u (l : List Tok) : Ok (SufR l) (factsP l) := by
  unfold factsP
  repeat (first
    | with_reducible exact Ok.err
    | with_reducible exact Suf.done _ (by first | exact Suf.refl _ | assumption | exact Suf.tail (Suf.refl _) | exact Suf.tail (by assumption) | exact Suf.tail (Suf.tail (Suf.refl _)))
    | with_reducible refine Suf.cond ?_ ?_
    | with_reducible refine Suf.sum ?_ (fun _ _ => ?_)
    | with_reducible refine Suf.bd (fact_u _) (by first | exact Suf.refl _ | assumption | exact Suf.tail (Suf.refl _) | exact Suf.tail (by assumption) | exact Suf.tail (Suf.tail (Suf.refl _))) (fun _ _ _ => ?_)
    | with_reducible exact Suf.read (fact_u _) (by first | exact Suf.refl _ | assumption | exact Suf.tail (Suf.refl _) | exact Suf.tail (by assumption) | exact Suf.tail (Suf.tail (Suf.refl _)))
    | with_reducible refine Suf.bd (list_u fact_u _) (by first | exact Suf.refl _ | assumption | exact Suf.tail (Suf.refl _) | exact Suf.tail (by assumption) | exact Suf.tail (Suf.tail (Suf.refl _))) (fun _ _ _ => ?_)
    | with_reducible exact Suf.read (list_u fact_u _) (by first | exact Suf.refl _ | assumption | exact Suf.tail (Suf.refl _) | exact Suf.tail (by assumption) | exact Suf.tail (Suf.tail (Suf.refl _))))
theorem type_u (p : Nat) (l : List Tok) : Ok (SufR l) (typeP p l) := by
  unfold typeP
  repeat (first
    | with_reducible exact Ok.err
    | with_reducible exact Suf.done _ (by first | exact Suf.refl _ | assumption | exact Suf.tail (Suf.refl _) | exact Suf.tail (by assumption) | exact Suf.tail (Suf.tail (Suf.refl _)))
    | with_reducible refine Suf.cond ?_ ?_
    | with_reducible refine Suf.sum ?_ (fun _ _ => ?_)
    | with_reducible refine Suf.bd (expect_u _ _) (by first | exact Suf.refl _ | assumption | exact Suf.tail (Suf.refl _) | exact Suf.tail (by assumption) | exact Suf.tail (Suf.tail (Suf.refl _))) (fun _ _ _ => ?_)
    | with_reducible exact Suf.read (expect_u _ _) (by first | exact Suf.refl _ | assumption | exact Suf.tail (Suf.refl _) | exact Suf.tail (by assumption) | exact Suf.tail (Suf.tail (Suf.refl _)))
    | with_reducible refine Suf.bd (name_u _) (by first | exact Suf.refl _ | assumption | exact Suf.tail (Suf.refl _) | exact Suf.tail (by assumption) | exact Suf.tail (Suf.tail (Suf.refl _))) (fun _ _ _ => ?_)
    | with_reducible exact Suf.read (name_u _) (by first | exact Suf.refl _ | assumption | exact Suf.tail (Suf.refl _) | exact Suf.tail (by assumption) | exact Suf.tail (Suf.tail (Suf.refl _)))
    | with_reducible refine Suf.bd (sort_u _) (by first | exact Suf.refl _ | assumption | exact Suf.tail (Suf.refl _) | exact Suf.tail (by assumption) | exact Suf.tail (Suf.tail (Suf.refl _))) (fun _ _ _ => ?_)
    | with_reducible exact Suf.read (sort_u _) (by first | exact Suf.refl _ | assumption | exact Suf.tail (Suf.refl _) | exact Suf.tail (by assumption) | exact Suf.tail (Suf.tail (Suf.refl _)))
    | with_reducible refine Suf.bd (fields_u _) (by first | exact Suf.refl _ | assumption | exact Suf.tail (Suf.refl _) | exact Suf.tail (by assumption) | exact Suf.tail (Suf.tail (Suf.refl _))) (fun _ _ _ => ?_)
    | with_reducible exact Suf.read (fields_u _) (by first | exact Suf.refl _ | assumption | exact Suf.tail (Suf.refl _) | exact Suf.tail (by assumption) | exact Suf.tail (Suf.tail (Suf.refl _)))
    | with_reducible refine Suf.bd (facts_u _) (by first | exact Suf.refl _ | assumption | exact Suf.tail (Suf.refl _) | exact Suf.tail (by assumption) | exact Suf.tail (Suf.tail (Suf.refl _))) (fun _ _ _ => ?_)
    | with_reducible exact Suf.read (facts_u _) (by first | exact Suf.refl _ | assumption | exact Suf.tail (Suf.refl _) | exact Suf.tail (by assumption) | exact Suf.tail (Suf.tail (Suf.refl _))))
theorem lock_u (k : Int) (p : Nat) (l : List Tok) : Ok (SufR l) (lockP k p l) := by
  unfold lockP
  repeat (first
    | with_reducible exact Ok.err
    | with_reducible exact Suf.done _ (by first | exact Suf.refl _ | assumption | exact Suf.tail (Suf.refl _) | exact Suf.tail (by assumption) | exact Suf.tail (Suf.tail (Suf.refl _)))
    | with_reducible refine Suf.cond ?_ ?_
    | with_reducible refine Suf.sum ?_ (fun _ _ => ?_)
    | with_reducible refine Suf.bd (expect_u _ _) (by first | exact Suf.refl _ | assumption | exact Suf.tail (Suf.refl _) | exact Suf.tail (by assumption) | exact Suf.tail (Suf.tail (Suf.refl _))) (fun _ _ _ => ?_)
    | with_reducible exact Suf.read (expect_u _ _) (by first | exact Suf.refl _ | assumption | exact Suf.tail (Suf.refl _) | exact Suf.tail (by assumption) | exact Suf.tail (Suf.tail (Suf.refl _)))
    | with_reducible refine Suf.bd (name_u _) (by first | exact Suf.refl _ | assumption | exact Suf.tail (Suf.refl _) | exact Suf.tail (by assumption) | exact Suf.tail (Suf.tail (Suf.refl _))) (fun _ _ _ => ?_)
    | with_reducible exact Suf.read (name_u _) (by first | exact Suf.refl _ | assumption | exact Suf.tail (Suf.refl _) | exact Suf.tail (by assumption) | exact Suf.tail (Suf.tail (Suf.refl _)))
    | with_reducible refine Suf.bd (number_u _) (by first | exact Suf.refl _ | assumption | exact Suf.tail (Suf.refl _) | exact Suf.tail (by assumption) | exact Suf.tail (Suf.tail (Suf.refl _))) (fun _ _ _ => ?_)
    | with_reducible exact Suf.read (number_u _) (by first | exact Suf.refl _ | assumption | exact Suf.tail (Suf.refl _) | exact Suf.tail (by assumption) | exact Suf.tail (Suf.tail (Suf.refl _))))
theorem return_u (p : Nat) (l : List Tok) : Ok (SufR l) (returnP p l) := by
  unfold returnP
  repeat (first
    | with_reducible exact Ok.err
    | with_reducible exact Suf.done _ (by first | exact Suf.refl _ | assumption | exact Suf.tail (Suf.refl _) | exact Suf.tail (by assumption) | exact Suf.tail (Suf.tail (Suf.refl _)))
    | with_reducible refine Suf.cond ?_ ?_
    | with_reducible refine Suf.sum ?_ (fun _ _ => ?_)
    | with_reducible refine Suf.bd (term_u _) (by first | exact Suf.refl _ | assumption | exact Suf.tail (Suf.refl _) | exact Suf.tail (by assumption) | exact Suf.tail (Suf.tail (Suf.refl _))) (fun _ _ _ => ?_)
    | with_reducible exact Suf.read (term_u _) (by first | exact Suf.refl _ | assumption | exact Suf.tail (Suf.refl _) | exact Suf.tail (by assumption) | exact Suf.tail (Suf.tail (Suf.refl _))))
theorem named_u (l : List Tok) : Ok (SufR l) (namedP l) := by
  unfold namedP
  repeat (first
    | with_reducible exact Ok.err
    | with_reducible exact Suf.done _ (by first | exact Suf.refl _ | assumption | exact Suf.tail (Suf.refl _) | exact Suf.tail (by assumption) | exact Suf.tail (Suf.tail (Suf.refl _)))
    | with_reducible refine Suf.cond ?_ ?_
    | with_reducible refine Suf.sum ?_ (fun _ _ => ?_)
    | with_reducible refine Suf.bd (expect_u _ _) (by first | exact Suf.refl _ | assumption | exact Suf.tail (Suf.refl _) | exact Suf.tail (by assumption) | exact Suf.tail (Suf.tail (Suf.refl _))) (fun _ _ _ => ?_)
    | with_reducible exact Suf.read (expect_u _ _) (by first | exact Suf.refl _ | assumption | exact Suf.tail (Suf.refl _) | exact Suf.tail (by assumption) | exact Suf.tail (Suf.tail (Suf.refl _)))
    | with_reducible refine Suf.bd (nameTerm_u _) (by first | exact Suf.refl _ | assumption | exact Suf.tail (Suf.refl _) | exact Suf.tail (by assumption) | exact Suf.tail (Suf.tail (Suf.refl _))) (fun _ _ _ => ?_)
    | with_reducible exact Suf.read (nameTerm_u _) (by first | exact Suf.refl _ | assumption | exact Suf.tail (Suf.refl _) | exact Suf.tail (by assumption) | exact Suf.tail (Suf.tail (Suf.refl _)))
    | with_reducible refine Suf.bd (term_u _) (by first | exact Suf.refl _ | assumption | exact Suf.tail (Suf.refl _) | exact Suf.tail (by assumption) | exact Suf.tail (Suf.tail (Suf.refl _))) (fun _ _ _ => ?_)
    | with_reducible exact Suf.read (term_u _) (by first | exact Suf.refl _ | assumption | exact Suf.tail (Suf.refl _) | exact Suf.tail (by assumption) | exact Suf.tail (Suf.tail (Suf.refl _)))
    | with_reducible refine Suf.bd (index_u _) (by first | exact Suf.refl _ | assumption | exact Suf.tail (Suf.refl _) | exact Suf.tail (by assumption) | exact Suf.tail (Suf.tail (Suf.refl _))) (fun _ _ _ => ?_)
    | with_reducible exact Suf.read (index_u _) (by first | exact Suf.refl _ | assumption | exact Suf.tail (Suf.refl _) | exact Suf.tail (by assumption) | exact Suf.tail (Suf.tail (Suf.refl _)))
    | with_reducible refine Suf.bd (call_u _ _) (by first | exact Suf.refl _ | assumption | exact Suf.tail (Suf.refl _) | exact Suf.tail (by assumption) | exact Suf.tail (Suf.tail (Suf.refl _))) (fun _ _ _ => ?_)
    | with_reducible exact Suf.read (call_u _ _) (by first | exact Suf.refl _ | assumption | exact Suf.tail (Suf.refl _) | exact Suf.tail (by assumption) | exact Suf.tail (Suf.tail (Suf.refl _)))
    | with_reducible refine Suf.bd (expr_u _) (by first | exact Suf.refl _ | assumption | exact Suf.tail (Suf.refl _) | exact Suf.tail (by assumption) | exact Suf.tail (Suf.tail (Suf.refl _))) (fun _ _ _ => ?_)
    | with_reducible exact Suf.read (expr_u _) (by first | exact Suf.refl _ | assumption | exact Suf.tail (Suf.refl _) | exact Suf.tail (by assumption) | exact Suf.tail (Suf.tail (Suf.refl _))))
theorem simple_u (l : List Tok) : Ok (SufR l) (simpleP l) := by
  unfold simpleP
  repeat (first
    | with_reducible exact Ok.err
    | with_reducible exact Suf.done _ (by first | exact Suf.refl _ | assumption | exact Suf.tail (Suf.refl _) | exact Suf.tail (by assumption) | exact Suf.tail (Suf.tail (Suf.refl _)))
    | with_reducible refine Suf.cond ?_ ?_
    | with_reducible refine Suf.sum ?_ (fun _ _ => ?_)
    | with_reducible refine Suf.bd (name_u _) (by first | exact Suf.refl _ | assumption | exact Suf.tail (Suf.refl _) | exact Suf.tail (by assumption) | exact Suf.tail (Suf.tail (Suf.refl _))) (fun _ _ _ => ?_)
    | with_reducible exact Suf.read (name_u _) (by first | exact Suf.refl _ | assumption | exact Suf.tail (Suf.refl _) | exact Suf.tail (by assumption) | exact Suf.tail (Suf.tail (Suf.refl _)))
    | with_reducible refine Suf.bd (term_u _) (by first | exact Suf.refl _ | assumption | exact Suf.tail (Suf.refl _) | exact Suf.tail (by assumption) | exact Suf.tail (Suf.tail (Suf.refl _))) (fun _ _ _ => ?_)
    | with_reducible exact Suf.read (term_u _) (by first | exact Suf.refl _ | assumption | exact Suf.tail (Suf.refl _) | exact Suf.tail (by assumption) | exact Suf.tail (Suf.tail (Suf.refl _)))
    | with_reducible refine Suf.bd (parens_u term_u _) (by first | exact Suf.refl _ | assumption | exact Suf.tail (Suf.refl _) | exact Suf.tail (by assumption) | exact Suf.tail (Suf.tail (Suf.refl _))) (fun _ _ _ => ?_)
    | with_reducible exact Suf.read (parens_u term_u _) (by first | exact Suf.refl _ | assumption | exact Suf.tail (Suf.refl _) | exact Suf.tail (by assumption) | exact Suf.tail (Suf.tail (Suf.refl _)))
    | with_reducible refine Suf.bd (lock_u _ _ _) (by first | exact Suf.refl _ | assumption | exact Suf.tail (Suf.refl _) | exact Suf.tail (by assumption) | exact Suf.tail (Suf.tail (Suf.refl _))) (fun _ _ _ => ?_)
    | with_reducible exact Suf.read (lock_u _ _ _) (by first | exact Suf.refl _ | assumption | exact Suf.tail (Suf.refl _) | exact Suf.tail (by assumption) | exact Suf.tail (Suf.tail (Suf.refl _)))
    | with_reducible refine Suf.bd (return_u _ _) (by first | exact Suf.refl _ | assumption | exact Suf.tail (Suf.refl _) | exact Suf.tail (by assumption) | exact Suf.tail (Suf.tail (Suf.refl _))) (fun _ _ _ => ?_)
    | with_reducible exact Suf.read (return_u _ _) (by first | exact Suf.refl _ | assumption | exact Suf.tail (Suf.refl _) | exact Suf.tail (by assumption) | exact Suf.tail (Suf.tail (Suf.refl _)))
    | with_reducible refine Suf.bd (named_u _) (by first | exact Suf.refl _ | assumption | exact Suf.tail (Suf.refl _) | exact Suf.tail (by assumption) | exact Suf.tail (Suf.tail (Suf.refl _))) (fun _ _ _ => ?_)
    | with_reducible exact Suf.read (named_u _) (by first | exact Suf.refl _ | assumption | exact Suf.tail (Suf.refl _) | exact Suf.tail (by assumption) | exact Suf.tail (Suf.tail (Suf.refl _))))
theorem else_u {blk : List Tok → R T} (hb : ∀ l, Ok (SufR l) (blk l)) (p : Nat) (l : List Tok) : Ok (SufR l) (elseP blk p l) := by
  unfold elseP
  repeat (first
    | with_reducible exact Ok.err
    | with_reducible exact Suf.done _ (by first | exact Suf.refl _ | assumption | exact Suf.tail (Suf.refl _) | exact Suf.tail (by assumption) | exact Suf.tail (Suf.tail (Suf.refl _)))
    | with_reducible refine Suf.cond ?_ ?_
    | with_reducible refine Suf.sum ?_ (fun _ _ => ?_)
    | with_reducible refine Suf.bd (hb _) (by first | exact Suf.refl _ | assumption | exact Suf.tail (Suf.refl _) | exact Suf.tail (by assumption) | exact Suf.tail (Suf.tail (Suf.refl _))) (fun _ _ _ => ?_)
    | with_reducible exact Suf.read (hb _) (by first | exact Suf.refl _ | assumption | exact Suf.tail (Suf.refl _) | exact Suf.tail (by assumption) | exact Suf.tail (Suf.tail (Suf.refl _))))
theorem if_u {blk : List Tok → R T} (hb : ∀ l, Ok (SufR l) (blk l)) (p : Nat) (l : List Tok) : Ok (SufR l) (ifP blk p l) := by
  unfold ifP
  repeat (first
    | with_reducible exact Ok.err
    | with_reducible exact Suf.done _ (by first | exact Suf.refl _ | assumption | exact Suf.tail (Suf.refl _) | exact Suf.tail (by assumption) | exact Suf.tail (Suf.tail (Suf.refl _)))
    | with_reducible refine Suf.cond ?_ ?_
    | with_reducible refine Suf.sum ?_ (fun _ _ => ?_)
    | with_reducible refine Suf.bd (compare_u _ _ _) (by first | exact Suf.refl _ | assumption | exact Suf.tail (Suf.refl _) | exact Suf.tail (by assumption) | exact Suf.tail (Suf.tail (Suf.refl _))) (fun _ _ _ => ?_)
    | with_reducible exact Suf.read (compare_u _ _ _) (by first | exact Suf.refl _ | assumption | exact Suf.tail (Suf.refl _) | exact Suf.tail (by assumption) | exact Suf.tail (Suf.tail (Suf.refl _)))
    | with_reducible refine Suf.bd (else_u hb _ _) (by first | exact Suf.refl _ | assumption | exact Suf.tail (Suf.refl _) | exact Suf.tail (by assumption) | exact Suf.tail (Suf.tail (Suf.refl _))) (fun _ _ _ => ?_)
    | with_reducible exact Suf.read (else_u hb _ _) (by first | exact Suf.refl _ | assumption | exact Suf.tail (Suf.refl _) | exact Suf.tail (by assumption) | exact Suf.tail (Suf.tail (Suf.refl _)))
    | with_reducible refine Suf.bd (hb _) (by first | exact Suf.refl _ | assumption | exact Suf.tail (Suf.refl _) | exact Suf.tail (by assumption) | exact Suf.tail (Suf.tail (Suf.refl _))) (fun _ _ _ => ?_)
    | with_reducible exact Suf.read (hb _) (by first | exact Suf.refl _ | assumption | exact Suf.tail (Suf.refl _) | exact Suf.tail (by assumption) | exact Suf.tail (Suf.tail (Suf.refl _))))
theorem while_u {blk : List Tok → R T} (hb : ∀ l, Ok (SufR l) (blk l)) (p : Nat) (l : List Tok) : Ok (SufR l) (whileP blk p l) := by
  unfold whileP
  repeat (first
    | with_reducible exact Ok.err
    | with_reducible exact Suf.done _ (by first | exact Suf.refl _ | assumption | exact Suf.tail (Suf.refl _) | exact Suf.tail (by assumption) | exact Suf.tail (Suf.tail (Suf.refl _)))
    | with_reducible refine Suf.cond ?_ ?_
    | with_reducible refine Suf.sum ?_ (fun _ _ => ?_)
    | with_reducible refine Suf.bd (compare_u _ _ _) (by first | exact Suf.refl _ | assumption | exact Suf.tail (Suf.refl _) | exact Suf.tail (by assumption) | exact Suf.tail (Suf.tail (Suf.refl _))) (fun _ _ _ => ?_)
    | with_reducible exact Suf.read (compare_u _ _ _) (by first | exact Suf.refl _ | assumption | exact Suf.tail (Suf.refl _) | exact Suf.tail (by assumption) | exact Suf.tail (Suf.tail (Suf.refl _)))
    | with_reducible refine Suf.bd (hb _) (by first | exact Suf.refl _ | assumption | exact Suf.tail (Suf.refl _) | exact Suf.tail (by assumption) | exact Suf.tail (Suf.tail (Suf.refl _))) (fun _ _ _ => ?_)
    | with_reducible exact Suf.read (hb _) (by first | exact Suf.refl _ | assumption | exact Suf.tail (Suf.refl _) | exact Suf.tail (by assumption) | exact Suf.tail (Suf.tail (Suf.refl _))))
theorem stmt_u {blk : List Tok → R T} (hb : ∀ l, Ok (SufR l) (blk l)) (l : List Tok) : Ok (SufR l) (stmtP blk l) := by
  unfold stmtP
  repeat (first
    | with_reducible exact Ok.err
    | with_reducible exact Suf.done _ (by first | exact Suf.refl _ | assumption | exact Suf.tail (Suf.refl _) | exact Suf.tail (by assumption) | exact Suf.tail (Suf.tail (Suf.refl _)))
    | with_reducible refine Suf.cond ?_ ?_
    | with_reducible refine Suf.sum ?_ (fun _ _ => ?_)
    | with_reducible refine Suf.bd (expect_u _ _) (by first | exact Suf.refl _ | assumption | exact Suf.tail (Suf.refl _) | exact Suf.tail (by assumption) | exact Suf.tail (Suf.tail (Suf.refl _))) (fun _ _ _ => ?_)
    | with_reducible exact Suf.read (expect_u _ _) (by first | exact Suf.refl _ | assumption | exact Suf.tail (Suf.refl _) | exact Suf.tail (by assumption) | exact Suf.tail (Suf.tail (Suf.refl _)))
    | with_reducible refine Suf.bd (simple_u _) (by first | exact Suf.refl _ | assumption | exact Suf.tail (Suf.refl _) | exact Suf.tail (by assumption) | exact Suf.tail (Suf.tail (Suf.refl _))) (fun _ _ _ => ?_)
    | with_reducible exact Suf.read (simple_u _) (by first | exact Suf.refl _ | assumption | exact Suf.tail (Suf.refl _) | exact Suf.tail (by assumption) | exact Suf.tail (Suf.tail (Suf.refl _)))
    | with_reducible refine Suf.bd (if_u hb _ _) (by first | exact Suf.refl _ | assumption | exact Suf.tail (Suf.refl _) | exact Suf.tail (by assumption) | exact Suf.tail (Suf.tail (Suf.refl _))) (fun _ _ _ => ?_)
    | with_reducible exact Suf.read (if_u hb _ _) (by first | exact Suf.refl _ | assumption | exact Suf.tail (Suf.refl _) | exact Suf.tail (by assumption) | exact Suf.tail (Suf.tail (Suf.refl _)))
    | with_reducible refine Suf.bd (while_u hb _ _) (by first | exact Suf.refl _ | assumption | exact Suf.tail (Suf.refl _) | exact Suf.tail (by assumption) | exact Suf.tail (Suf.tail (Suf.refl _))) (fun _ _ _ => ?_)
    | with_reducible exact Suf.read (while_u hb _ _) (by first | exact Suf.refl _ | assumption | exact Suf.tail (Suf.refl _) | exact Suf.tail (by assumption) | exact Suf.tail (Suf.tail (Suf.refl _))))
theorem stmtsF_u {item : List Tok → R T} (hi : ∀ l, Ok (SufR l) (item l)) : ∀ (n : Nat) (l : List Tok), Ok (SufR l) (stmtsF item n l)
  | 0, l => Ok.err
  | n + 1, l => by
    rw [stmtsF]
    exact Suf.cond (Suf.done _ (Suf.tail (Suf.refl _))) (Suf.bd (hi _) (Suf.refl _) fun a l1 h => Suf.bd (stmtsF_u hi n l1) h fun xs l2 h2 => Suf.done _ h2)
theorem block_u : ∀ (n : Nat) (l : List Tok), Ok (SufR l) (blockP n l)
  | 0, l => by
    rw [blockP]
    exact Suf.bd (expect_u _ l) (Suf.refl _) fun _ _ _ => Ok.err
  | n + 1, l => by
    rw [blockP]
    exact Suf.bd (expect_u _ l) (Suf.refl _) fun t l1 h => Suf.bd (stmtsF_u (stmt_u (block_u n)) _ l1) h fun xs l2 h2 => Suf.done _ h2
theorem result_u (l : List Tok) : Ok (SufR l) (resultP l) := by
  unfold resultP
  repeat (first
    | with_reducible exact Ok.err
    | with_reducible exact Suf.done _ (by first | exact Suf.refl _ | assumption | exact Suf.tail (Suf.refl _) | exact Suf.tail (by assumption) | exact Suf.tail (Suf.tail (Suf.refl _)))
    | with_reducible refine Suf.cond ?_ ?_
    | with_reducible refine Suf.sum ?_ (fun _ _ => ?_)
    | with_reducible refine Suf.bd (valueMode_u _) (by first | exact Suf.refl _ | assumption | exact Suf.tail (Suf.refl _) | exact Suf.tail (by assumption) | exact Suf.tail (Suf.tail (Suf.refl _))) (fun _ _ _ => ?_)
    | with_reducible exact Suf.read (valueMode_u _) (by first | exact Suf.refl _ | assumption | exact Suf.tail (Suf.refl _) | exact Suf.tail (by assumption) | exact Suf.tail (Suf.tail (Suf.refl _))))
theorem fn_u (p : Nat) (l : List Tok) : Ok (SufR l) (fnP p l) := by
  unfold fnP
  repeat (first
    | with_reducible exact Ok.err
    | with_reducible exact Suf.done _ (by first | exact Suf.refl _ | assumption | exact Suf.tail (Suf.refl _) | exact Suf.tail (by assumption) | exact Suf.tail (Suf.tail (Suf.refl _)))
    | with_reducible refine Suf.cond ?_ ?_
    | with_reducible refine Suf.sum ?_ (fun _ _ => ?_)
    | with_reducible refine Suf.bd (name_u _) (by first | exact Suf.refl _ | assumption | exact Suf.tail (Suf.refl _) | exact Suf.tail (by assumption) | exact Suf.tail (Suf.tail (Suf.refl _))) (fun _ _ _ => ?_)
    | with_reducible exact Suf.read (name_u _) (by first | exact Suf.refl _ | assumption | exact Suf.tail (Suf.refl _) | exact Suf.tail (by assumption) | exact Suf.tail (Suf.tail (Suf.refl _)))
    | with_reducible refine Suf.bd (param_u _) (by first | exact Suf.refl _ | assumption | exact Suf.tail (Suf.refl _) | exact Suf.tail (by assumption) | exact Suf.tail (Suf.tail (Suf.refl _))) (fun _ _ _ => ?_)
    | with_reducible exact Suf.read (param_u _) (by first | exact Suf.refl _ | assumption | exact Suf.tail (Suf.refl _) | exact Suf.tail (by assumption) | exact Suf.tail (Suf.tail (Suf.refl _)))
    | with_reducible refine Suf.bd (parens_u param_u _) (by first | exact Suf.refl _ | assumption | exact Suf.tail (Suf.refl _) | exact Suf.tail (by assumption) | exact Suf.tail (Suf.tail (Suf.refl _))) (fun _ _ _ => ?_)
    | with_reducible exact Suf.read (parens_u param_u _) (by first | exact Suf.refl _ | assumption | exact Suf.tail (Suf.refl _) | exact Suf.tail (by assumption) | exact Suf.tail (Suf.tail (Suf.refl _)))
    | with_reducible refine Suf.bd (block_u _ _) (by first | exact Suf.refl _ | assumption | exact Suf.tail (Suf.refl _) | exact Suf.tail (by assumption) | exact Suf.tail (Suf.tail (Suf.refl _))) (fun _ _ _ => ?_)
    | with_reducible exact Suf.read (block_u _ _) (by first | exact Suf.refl _ | assumption | exact Suf.tail (Suf.refl _) | exact Suf.tail (by assumption) | exact Suf.tail (Suf.tail (Suf.refl _)))
    | with_reducible refine Suf.bd (result_u _) (by first | exact Suf.refl _ | assumption | exact Suf.tail (Suf.refl _) | exact Suf.tail (by assumption) | exact Suf.tail (Suf.tail (Suf.refl _))) (fun _ _ _ => ?_)
    | with_reducible exact Suf.read (result_u _) (by first | exact Suf.refl _ | assumption | exact Suf.tail (Suf.refl _) | exact Suf.tail (by assumption) | exact Suf.tail (Suf.tail (Suf.refl _))))
theorem decl_u (l : List Tok) : Ok (SufR l) (declP l) := by
  unfold declP
  repeat (first
    | with_reducible exact Ok.err
    | with_reducible exact Suf.done _ (by first | exact Suf.refl _ | assumption | exact Suf.tail (Suf.refl _) | exact Suf.tail (by assumption) | exact Suf.tail (Suf.tail (Suf.refl _)))
    | with_reducible refine Suf.cond ?_ ?_
    | with_reducible refine Suf.sum ?_ (fun _ _ => ?_)
    | with_reducible refine Suf.bd (expect_u _ _) (by first | exact Suf.refl _ | assumption | exact Suf.tail (Suf.refl _) | exact Suf.tail (by assumption) | exact Suf.tail (Suf.tail (Suf.refl _))) (fun _ _ _ => ?_)
    | with_reducible exact Suf.read (expect_u _ _) (by first | exact Suf.refl _ | assumption | exact Suf.tail (Suf.refl _) | exact Suf.tail (by assumption) | exact Suf.tail (Suf.tail (Suf.refl _)))
    | with_reducible refine Suf.bd (type_u _ _) (by first | exact Suf.refl _ | assumption | exact Suf.tail (Suf.refl _) | exact Suf.tail (by assumption) | exact Suf.tail (Suf.tail (Suf.refl _))) (fun _ _ _ => ?_)
    | with_reducible exact Suf.read (type_u _ _) (by first | exact Suf.refl _ | assumption | exact Suf.tail (Suf.refl _) | exact Suf.tail (by assumption) | exact Suf.tail (Suf.tail (Suf.refl _)))
    | with_reducible refine Suf.bd (fn_u _ _) (by first | exact Suf.refl _ | assumption | exact Suf.tail (Suf.refl _) | exact Suf.tail (by assumption) | exact Suf.tail (Suf.tail (Suf.refl _))) (fun _ _ _ => ?_)
    | with_reducible exact Suf.read (fn_u _ _) (by first | exact Suf.refl _ | assumption | exact Suf.tail (Suf.refl _) | exact Suf.tail (by assumption) | exact Suf.tail (Suf.tail (Suf.refl _))))

/- A statement stands at its first token. -/
def Atp (l : List Tok) (t : T) (_ : List Tok) : Prop := t.place = (hdT l).place
def AtpX (p : Nat) (t : T) (_ : List Tok) : Prop := t.place = p
theorem place_snoc (t b : T) : (t.snoc b).place = t.place := by cases t; rfl
theorem nameTerm_a (l : List Tok) : Ok (Atp l) (nameTermP l) := by
  unfold nameTermP
  exact (anyOk _).bd fun s l1 _ => Ok.ok rfl
theorem lock_a (k : Int) (p : Nat) (l : List Tok) : Ok (AtpX p) (lockP k p l) := by
  unfold lockP
  exact (anyOk _).bd fun s l1 _ => (anyOk _).bd fun _ l2 _ => (anyOk _).bd fun v l3 _ => (anyOk _).bd fun _ l4 _ => Ok.ok rfl
theorem return_a (p : Nat) (l : List Tok) : Ok (AtpX p) (returnP p l) := by
  unfold returnP
  exact Ok.cond (fun _ => Ok.ok rfl) (fun _ => (anyOk _).bd fun a l1 h => Ok.ok rfl)
theorem named_a (l : List Tok) : Ok (Atp l) (namedP l) := by
  unfold namedP
  exact (nameTerm_a l).bd fun n l1 hn => Ok.cond (fun _ => (anyOk _).bd fun c l2 h2 => Ok.ok hn) fun _ => Ok.cond (fun _ => (anyOk _).bd fun i l2 h2 => (anyOk _).bd fun _ l3 _ => (anyOk _).bd fun b l4 h4 => Ok.ok hn) fun _ => (anyOk _).bd fun _ l2 _ => (anyOk _).bd fun x l3 h3 => Ok.ok hn
theorem simple_a (l : List Tok) : Ok (Atp l) (simpleP l) := by
  unfold simpleP
  exact Ok.cond (fun _ => named_a l) fun _ => Ok.cond (fun _ => (anyOk _).bd fun s l1 _ => Ok.ok rfl) fun _ => Ok.cond (fun _ => lock_a _ _ _) fun _ => Ok.cond (fun _ => lock_a _ _ _) fun _ => Ok.cond (fun hc => return_a _ _) fun _ => Ok.cond (fun hc => Ok.ok rfl) fun _ => Ok.cond (fun _ => (anyOk _).bd fun s l1 _ => (anyOk _).bd fun xs l2 h2 => Ok.ok rfl) fun _ => Ok.err
theorem compare_a (k : Int) (p : Nat) (l : List Tok) : Ok (AtpX p) (compareP k p l) := by
  unfold compareP
  exact (anyOk _).bd fun a l1 h1 => (anyOk _).bd fun c l2 _ => (anyOk _).bd fun b l3 h3 => Ok.ok rfl
theorem stmt_a (blk : List Tok → R T) (l : List Tok) : Ok (Atp l) (stmtP blk l) := by
  unfold stmtP ifP whileP
  exact Ok.cond (fun _ => (compare_a _ _ _).bd fun n l1 h => (anyOk _).bd fun b l2 _ => (anyOk _).bd fun c l3 _ => Ok.ok (by show ((n.snoc b).snoc c).place = _; rw [place_snoc, place_snoc]; exact h)) fun _ => Ok.cond (fun _ => (compare_a _ _ _).bd fun n l1 h => (anyOk _).bd fun b l2 _ => Ok.ok (by show (n.snoc b).place = _; rw [place_snoc]; exact h)) fun _ => (simple_a l).bd fun n l1 h1 => (anyOk _).bd fun _ l2 _ => Ok.ok h1

def RAsc (l : List Tok) : Prop := l.Pairwise fun a b => a.place < b.place
def Rise (ts : List T) : Prop := ts.Pairwise fun a b => a.place < b.place
theorem RAsc.suf {l l' : List Tok} (h : RAsc l) (hs : Suf l l') : RAsc l' := by
  obtain ⟨n, rfl⟩ := hs
  exact h.sublist (List.drop_sublist _ _)
/- The statements stand at tokens of the list, and rise. -/
theorem stmtsF_r {blk : List Tok → R T} (hb : ∀ l, Ok (Sz 0 l) (blk l)) (hu : ∀ l, Ok (SufR l) (blk l)) : ∀ (n : Nat) (l : List Tok), RAsc l → Ok (fun ts _ => Rise ts ∧ ∀ t ∈ ts, ∃ k ∈ l, t.place = k.place) (stmtsF (stmtP blk) n l)
  | 0, l, _ => Ok.err
  | n + 1, l, ha => by
    rw [stmtsF]
    refine Ok.cond (fun _ => Ok.ok ⟨List.Pairwise.nil, fun t h => by simp at h⟩) (fun _ => ?_)
    intro ts l2 h
    cases hr : stmtP blk l with
    | error e => rw [bd_err hr] at h; cases h
    | ok q =>
      obtain ⟨a, l1⟩ := q
      rw [bd_ok hr] at h
      have h1 : a.place = (hdT l).place := stmt_a blk l a l1 hr
      have h2 : Suf l l1 := stmt_u hu l a l1 hr
      have h3 : a.size + 2 * l1.length ≤ 2 * l.length + 0 := stmt_sz hb l a l1 hr
      have h4 : 1 ≤ a.size := by cases a; rw [size_mk]; omega
      cases hq : stmtsF (stmtP blk) n l1 with
      | error e => rw [bd_err hq] at h; cases h
      | ok q =>
        obtain ⟨xs, l3⟩ := q
        rw [bd_ok hq] at h
        cases h
        obtain ⟨h5, h6⟩ := stmtsF_r hb hu n l1 (ha.suf h2) xs _ hq
        cases l with
        | nil => simp at h3; omega
        | cons k l =>
          obtain ⟨m, rfl⟩ := h2
          have h7 : Suf l ((k :: l).drop m) := by
            cases m with
            | zero => simp at h3; omega
            | succ m => exact ⟨m, by rw [List.drop_succ_cons]⟩
          refine ⟨List.Pairwise.cons (fun t ht => ?_) h5, fun t ht => ?_⟩
          · obtain ⟨j, hj, e⟩ := h6 t ht
            rw [h1, e]
            exact List.rel_of_pairwise_cons ha (h7.mem hj)
          · rcases List.mem_cons.1 ht with rfl | ht
            · exact ⟨k, by simp, h1⟩
            · obtain ⟨j, hj, e⟩ := h6 t ht
              exact ⟨j, by simp [h7.mem hj], e⟩
theorem block_r : ∀ (n : Nat) (l : List Tok), RAsc l → Ok (fun t _ => Rise t.kids) (blockP n l)
  | 0, l, _ => by
    rw [blockP]
    exact (anyOk _).bd fun _ _ _ => Ok.err
  | n + 1, l, ha => by
    rw [blockP]
    exact (expect_u _ l).bd fun t l1 h => (stmtsF_r (block_sz n) (block_u n) _ l1 (ha.suf h)).bd fun xs l2 h2 => Ok.ok h2.1
/- The last kid of a function. -/
def RiseFn (t : T) : Prop := t.kind = 6 → Rise (lastP t).kids
theorem fn_r (p : Nat) (l : List Tok) (ha : RAsc l) : Ok (fun t _ => RiseFn t) (fnP p l) := by
  unfold fnP
  refine (name_u l).bd fun s l1 h1 => Ok.bd ((parens_u param_u l1).mono fun _ _ h => Suf.trans h1 h) fun xs l2 h2 => Ok.bd ((result_u l2).mono fun _ _ h => Suf.trans h2 h) fun r l3 h3 => (block_r 8 l3 (ha.suf h3)).bd fun b l4 h4 => Ok.ok fun _ => ?_
  have hlast : lastP (.mk 6 s 0 p (xs ++ [r, b])) = b := by
    unfold lastP kidP
    have h0 : (T.mk 6 s 0 p (xs ++ [r, b])).kids.isEmpty = false := by show (xs ++ [r, b]).isEmpty = false; cases xs <;> rfl
    rw [h0]
    show (xs ++ [r, b]).getD ((xs ++ [r, b]).length - 1) zeroT = b
    simp
  rw [hlast]
  exact h4
theorem type_k (p : Nat) (l : List Tok) : Ok (fun t _ => RiseFn t) (typeP p l) := by
  refine (type_w p l).mono fun t _ h h6 => ?_
  have := h.1
  omega
theorem decl_r (l : List Tok) (ha : RAsc l) : Ok (fun t _ => RiseFn t) (declP l) := by
  unfold declP
  exact (expect_u _ l).bd fun t l1 h => Ok.cond (fun _ => type_k _ _) (fun _ => fn_r _ _ (ha.suf h))
theorem unitF_r : ∀ (n : Nat) (l : List Tok), RAsc l → Ok (fun ts _ => ∀ t ∈ ts, RiseFn t) (unitF n l)
  | 0, l, _ => Ok.err
  | n + 1, l, ha => by
    rw [unitF]
    refine Ok.cond (fun _ => Ok.ok (fun t h => by simp at h)) (fun _ => ?_)
    refine Ok.bd (G := fun a l1 => RiseFn a ∧ Suf l l1) (fun a l1 h => ⟨decl_r l ha a l1 h, decl_u l a l1 h⟩) fun a l1 h => (unitF_r n l1 (ha.suf h.2)).bd fun xs l2 h2 => Ok.ok fun t ht => ?_
    rcases List.mem_cons.1 ht with rfl | ht
    · exact h.1
    · exact h2 t ht
theorem unit_r (l : List Tok) (ha : RAsc l) : Ok (fun t _ => ∀ k ∈ t.kids, RiseFn k) (unitP l) := by
  unfold unitP
  exact (unitF_r _ l ha).bd fun xs l1 h => Ok.ok h
theorem parseToks_r (l : List Tok) (ha : RAsc l) : ∀ k ∈ (parseToks l).1.kids, RiseFn k := by
  unfold parseToks
  cases hu : unitP l with
  | error q => intro k hk; simp [zeroT, T.kids] at hk
  | ok q =>
    have h := unit_r l ha q.1 q.2 hu
    show ∀ k ∈ ((if 4096 < q.1.size then (zeroT, 0, 22) else (q.1, 0, 0)) : T × Nat × Int).1.kids, RiseFn k
    split
    · intro k hk; simp [zeroT, T.kids] at hk
    · exact h

theorem rmore_ok {ts rs : List Tok} {r : LexRes} (h : more ts r = .ok rs) : ∃ r', r = .ok r' ∧ rs = ts ++ r' := by
  cases r with
  | error e => cases h
  | ok r' => cases h; exact ⟨r', rfl, rfl⟩
theorem rlex_ge {s : ByteArray} : ∀ j ts, j ≤ s.size → lexFrom s j = .ok ts → RAsc ts ∧ ∀ t ∈ ts, j ≤ t.place := by
  intro j
  apply lex_ind (s := s) (P := fun j r => ∀ ts, j ≤ s.size → r = .ok ts → RAsc ts ∧ ∀ t ∈ ts, j ≤ t.place)
  · intro k _ ts hk h
    cases h
    refine ⟨List.Pairwise.cons (fun t h => by simp at h) List.Pairwise.nil, fun t ht => ?_⟩
    obtain rfl : t = endTok s := by simpa using ht
    exact hk
  · intro k hk _ ih ts _ h
    obtain ⟨h1, h2⟩ := ih ts (by omega) h
    exact ⟨h1, fun t ht => by have := h2 t ht; omega⟩
  · intro k hk hb ih ts _ h
    obtain ⟨h1, h2⟩ := ih ts (endOf_le _ _ _ (by omega)) h
    have := remark_gt hk hb
    exact ⟨h1, fun t ht => by have := h2 t ht; omega⟩
  · intro k e _ _ _ _ ts _ h; cases h
  · intro k t hk _ _ ht ih ts _ h
    obtain ⟨r', hr', rfl⟩ := rmore_ok h
    obtain ⟨kd, n, v, h3, ht3, hn, hn1, hn2⟩ := tok_three hk ht
    have hp : t.place = k := by rw [ht3]
    obtain ⟨h1, h2⟩ := ih r' (by omega) hr'
    refine ⟨List.Pairwise.cons (fun u hu => by have := h2 u hu; omega) h1, fun u hu => ?_⟩
    rcases List.mem_append.1 hu with hu | hu
    · obtain rfl : u = t := by simpa using hu
      omega
    · have := h2 u hu
      omega
/- In every tree that was read the statements of each function's block rise. -/
theorem parse_rise (s : ByteArray) : ∀ k ∈ (parseB s).1.kids, RiseFn k := by
  unfold parseB
  cases hl : lexAll s with
  | error q => intro k hk; simp [zeroT, T.kids] at hk
  | ok ts =>
    refine parseToks_r ts ?_
    unfold lexAll at hl
    split at hl
    · cases hl
    · exact (rlex_ge 0 ts (Nat.zero_le _) hl).1

/- Ahead of the first Branch each instruction of a block stands at its own statement's place. -/
theorem stmtsI_place (blk : Nat → List T → List Ins) : ∀ (ks : List T) (c n : Nat), KindsAre isStmtK ks → wholes ks → (∀ i x, i ≤ n → (stmtsI blk c ks)[i]? = some x → x.op ≠ 10) → ∀ i x, i ≤ n → (stmtsI blk c ks)[i]? = some x → ∃ t, ks[i]? = some t ∧ x.place = t.place
  | [], c, n, _, _, _, i, x, _, hx => by simp [stmtsI] at hx
  | t :: ks, c, n, hk, hw, hb, i, x, hi, hx => by
    have hkt : isStmtK t.kind := hk t (by simp)
    have hwt := (wholes_cons.1 hw).1
    have hone : ∃ j, stmtI blk c t = [j] ∧ PlainI t.place j := by
      rcases stmt_form hwt hkt with ⟨h15, a, b, x, y, he, _⟩ | ⟨h16, a, b, x, he, _⟩ | ⟨h15, h16, _⟩
      · exact absurd rfl (hb 0 (branchI t (c + (blk (c + 1) x.kids).length + 2)) (Nat.zero_le _) (by rw [stmtsI, stmtI_if _ _ h15 he]; rfl))
      · exact absurd rfl (hb 0 (branchI t (c + (blk (c + 1) x.kids).length + 2)) (Nat.zero_le _) (by rw [stmtsI, stmtI_while _ _ h16 he]; rfl))
      · exact stmtI_one blk c hkt h15 h16
    obtain ⟨j, hj, hp⟩ := hone
    rw [stmtsI, hj] at hx hb
    cases i with
    | zero =>
      obtain rfl : j = x := by simpa using hx
      exact ⟨t, rfl, hp.2.2.2⟩
    | succ i =>
      obtain ⟨u, hu, he⟩ := stmtsI_place blk ks _ (n - 1) (fun u hu => hk u (by simp [hu])) (wholes_cons.1 hw).2 (fun i y hi hy => hb (i + 1) y (by omega) (by simpa using hy)) i x (by omega) (by simpa using hx)
      exact ⟨u, by simpa using hu, he⟩
/- What the law asks: two instructions one behind the other, ahead of the first Branch, and not the last. -/
theorem fn_rises {t : T} (hw : t.whole) (hr : RiseFn t) (h6 : t.kind = 6) {j : Nat} {x y : Ins} (hx : (lowerI t).list[j]? = some x) (hy : (lowerI t).list[j + 1]? = some y) (hl : j + 2 < (lowerI t).list.length)
    (hb : ∀ i z, i ≤ j + 1 → (lowerI t).list[i]? = some z → z.op ≠ 10) : x.place < y.place := by
  obtain ⟨xs, r, b, he, _, _, _, h9, _, hlow⟩ := fn_form hw h6
  have hlast : lastP t = b := by
    unfold lastP kidP
    rw [he]
    have h0 : (xs ++ [r, b]).isEmpty = false := by cases xs <;> rfl
    rw [h0]
    show (xs ++ [r, b]).getD ((xs ++ [r, b]).length - 1) zeroT = b
    simp
  have hR := hr h6
  rw [hlast] at hR
  rw [hlow] at hx hy hl hb
  have hbk := block_kids h9.2 h9.1
  have hlen : j + 1 < (blockI 5000 0 b.kids).length := by simp at hl; omega
  rw [List.getElem?_append_left (by omega)] at hx hy
  have hb2 : ∀ i z, i ≤ j + 1 → (stmtsI (blockI 4999) 0 b.kids)[i]? = some z → z.op ≠ 10 := fun i z hi hz => hb i z hi (by rw [List.getElem?_append_left (by omega)]; exact hz)
  obtain ⟨u, hu, eu⟩ := stmtsI_place (blockI 4999) b.kids 0 (j + 1) hbk.1 hbk.2 hb2 j x (by omega) hx
  obtain ⟨v, hv, ev⟩ := stmtsI_place (blockI 4999) b.kids 0 (j + 1) hbk.1 hbk.2 hb2 (j + 1) y (by omega) hy
  rw [eu, ev]
  obtain ⟨h1, rfl⟩ := List.getElem?_eq_some_iff.1 hu
  obtain ⟨h2, rfl⟩ := List.getElem?_eq_some_iff.1 hv
  exact List.pairwise_iff_getElem.1 hR j (j + 1) h1 h2 (by omega)

end Go.Proofs.YtnmpfpnldcgbaaaDoor
