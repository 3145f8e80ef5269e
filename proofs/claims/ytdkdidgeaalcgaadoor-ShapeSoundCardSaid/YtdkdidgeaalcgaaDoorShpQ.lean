/- What the Types of a tree that was read are made of: a Sort, Fields, Facts. Nothing of the program is walked here. -/
import Derived.Test.YtdkdidgeaalcgaaDoorP19
import Derived.Test.YtdkdidgeaalcgaaDoorShpP
namespace Go.Proofs.YtdkdidgeaalcgaaDoor
open Go.RowKit

def SortOk (a : T) : Prop := a.kind = 2 ∧ ∀ n ∈ a.kids, isNameB n.text = true
def TypeOk (t : T) : Prop := isNameB t.text = true ∧ ∃ a ys zs, t.kids = a :: (ys ++ zs) ∧ SortOk a ∧ (∀ y ∈ ys, y.kind = 3) ∧ (∀ z ∈ zs, z.kind = 4)
def DeclOk (t : T) : Prop := t.kind = 1 → TypeOk t
theorem sort_q {l : List Tok} (h : TG l) : Ok (fun a l' => SortOk a ∧ TG l') (sortP l) := by
  unfold sortP
  exact (expect_g h).bd fun t l1 h1 => Ok.cond (fun _ => Ok.ok ⟨⟨rfl, fun n hn => by simp [T.kids] at hn⟩, h1.2⟩) (fun _ => (nameTerm_g h1.2).bd fun a l2 h2 => Ok.ok ⟨⟨rfl, fun n hn => by
    obtain rfl : n = a := by simpa [T.kids] using hn
    exact h2.1.1⟩, h2.2⟩)
theorem field_q {l : List Tok} (h : TG l) : Ok (fun a l' => a.kind = 3 ∧ TG l') (fieldP l) := by
  unfold fieldP
  exact (name_g h).bd fun s l1 h1 => Ok.cond (fun _ => (nameTerm_gd h1.2.tail).bd fun a l2 h2 => (expect_g h2.2).bd fun _ l3 h3 => Ok.ok ⟨rfl, h3.2⟩) (fun _ => Ok.ok ⟨rfl, h1.2⟩)
theorem fact_q {l : List Tok} (h : TG l) : Ok (fun a l' => a.kind = 4 ∧ TG l') (factP l) := by
  unfold factP compareP
  exact (term_g h).bd fun a l1 h1 => (expect_g h1.2).bd fun c l2 h2 => (term_g h2.2).bd fun b l3 h3 => Ok.ok ⟨rfl, h3.2⟩
theorem listF_q {item : List Tok → R T} {P : T → Prop} (hi : ∀ {l}, TG l → Ok (fun a l' => P a ∧ TG l') (item l)) : ∀ (n : Nat) {l : List Tok}, TG l → Ok (fun xs l' => (∀ x ∈ xs, P x) ∧ TG l') (listF item n l)
  | 0, l, _ => Ok.err
  | n + 1, l, h => by
    rw [listF]
    exact Ok.cond (fun _ => (hi h.tail).bd fun a l1 h1 => (listF_q hi n h1.2).bd fun xs l2 h2 => Ok.ok ⟨fun x hx => by
      rcases List.mem_cons.1 hx with rfl | hx
      · exact h1.1
      · exact h2.1 x hx, h2.2⟩) (fun _ => Ok.ok ⟨fun x hx => by simp at hx, h⟩)
theorem list_q {item : List Tok → R T} {P : T → Prop} (hi : ∀ {l}, TG l → Ok (fun a l' => P a ∧ TG l') (item l)) {l : List Tok} (h : TG l) : Ok (fun xs l' => (∀ x ∈ xs, P x) ∧ TG l') (listP item l) := by
  unfold listP
  exact (hi h).bd fun a l1 h1 => (listF_q hi _ h1.2).bd fun xs l2 h2 => Ok.ok ⟨fun x hx => by
    rcases List.mem_cons.1 hx with rfl | hx
    · exact h1.1
    · exact h2.1 x hx, h2.2⟩
theorem fields_q {l : List Tok} (h : TG l) : Ok (fun xs l' => (∀ x ∈ xs, x.kind = 3) ∧ TG l') (fieldsP l) := by
  unfold fieldsP
  exact Ok.cond (fun _ => (list_q field_q h.tail).bd fun xs l1 h1 => (expect_g h1.2).bd fun _ l2 h2 => Ok.ok ⟨h1.1, h2.2⟩) (fun _ => Ok.ok ⟨fun x hx => by simp at hx, h⟩)
theorem facts_q {l : List Tok} (h : TG l) : Ok (fun xs l' => (∀ x ∈ xs, x.kind = 4) ∧ TG l') (factsP l) := by
  unfold factsP
  exact Ok.cond (fun _ => list_q fact_q h.tail) (fun _ => Ok.ok ⟨fun x hx => by simp at hx, h⟩)
theorem type_q {p : Nat} {l : List Tok} (h : TG l) : Ok (fun a l' => DeclOk a ∧ TG l') (typeP p l) := by
  unfold typeP
  exact (name_g h).bd fun s l1 h1 => (sort_q h1.2).bd fun a l2 h2 => (fields_q h2.2).bd fun ys l3 h3 => (facts_q h3.2).bd fun zs l4 h4 => (expect_g h4.2).bd fun _ l5 h5 => Ok.ok ⟨fun _ => ⟨h1.1, a, ys, zs, rfl, h2.1, h3.1, h4.1⟩, h5.2⟩
theorem fn_q {p : Nat} {l : List Tok} (h : TG l) : Ok (fun a l' => DeclOk a ∧ TG l') (fnP p l) := by
  have h0 : Ok (fun a _ => a.kind = 6) (fnP p l) := by
    unfold fnP
    exact Ok.bd (G := fun _ _ => True) (fun _ _ _ => trivial) fun s l1 _ => Ok.bd (G := fun _ _ => True) (fun _ _ _ => trivial) fun xs l2 _ => Ok.bd (G := fun _ _ => True) (fun _ _ _ => trivial) fun r l3 _ => Ok.bd (G := fun _ _ => True) (fun _ _ _ => trivial) fun b l4 _ => Ok.ok rfl
  intro a l' e
  refine ⟨fun h1 => ?_, (fn_g h a l' e).2⟩
  have := h0 a l' e
  omega
theorem decl_q {l : List Tok} (h : TG l) : Ok (fun a l' => DeclOk a ∧ TG l') (declP l) := by
  unfold declP
  exact (expect_g h).bd fun t l1 h1 => Ok.cond (fun _ => type_q h1.2) (fun _ => fn_q h1.2)
theorem unitF_q : ∀ (n : Nat) {l : List Tok}, TG l → Ok (fun xs l' => (∀ x ∈ xs, DeclOk x) ∧ TG l') (unitF n l)
  | 0, l, _ => Ok.err
  | n + 1, l, h => by
    rw [unitF]
    exact Ok.cond (fun _ => Ok.ok ⟨fun x hx => by simp at hx, h⟩) (fun _ => (decl_q h).bd fun a l1 h1 => (unitF_q n h1.2).bd fun xs l2 h2 => Ok.ok ⟨fun x hx => by
      rcases List.mem_cons.1 hx with rfl | hx
      · exact h1.1
      · exact h2.1 x hx, h2.2⟩)
/- Of every tree that Parse answers. -/
theorem parse_decls (s : ByteArray) : ∀ t ∈ (parseB s).1.kids, DeclOk t := by
  have hz : ∀ t ∈ zeroT.kids, DeclOk t := fun t ht => by simp [zeroT, T.kids] at ht
  unfold parseB
  cases hl : lexAll s with
  | error e => exact hz
  | ok ts =>
    simp only
    unfold parseToks
    cases hu : unitP ts with
    | error e => exact hz
    | ok q =>
      obtain ⟨t, l⟩ := q
      simp only
      by_cases hs : 4096 < t.size
      · rw [if_pos hs]; exact hz
      · rw [if_neg hs]
        have h1 : Ok (fun t l' => (∀ x ∈ t.kids, DeclOk x) ∧ TG l') (unitP ts) := by
          unfold unitP
          exact (unitF_q _ (lexAll_TG hl)).bd fun xs l1 h => Ok.ok ⟨h.1, h.2⟩
        exact (h1 t l hu).1

theorem name_small {s : ByteArray} (h : isNameB s = true) : s.size ≤ 16 := by
  unfold isNameB at h
  simp only [Bool.and_eq_true, decide_eq_true_eq] at h
  exact h.1.1.1.2
theorem filter_all {P : T → Bool} : ∀ {l : List T}, (∀ x ∈ l, P x = true) → l.filter P = l
  | _, h => List.filter_eq_self.2 h
theorem filter_no {P : T → Bool} : ∀ {l : List T}, (∀ x ∈ l, P x = false) → l.filter P = []
  | _, h => List.filter_eq_nil_iff.2 fun x hx => by rw [h x hx]; decide
/- The parts of such a Type. -/
theorem ptOf_type {a : T} {ys zs : List T} (ha : a.kind = 2) (hy : ∀ y ∈ ys, y.kind = 3) (hz : ∀ z ∈ zs, z.kind = 4) : ptOf (a :: (ys ++ zs)) = ⟨a, ys, zs⟩ := by
  unfold ptOf
  have y2 := filter_no (P := fun t => t.kind == 2) (l := ys) fun y h => by simp [hy y h]
  have z2 := filter_no (P := fun t => t.kind == 2) (l := zs) fun y h => by simp [hz y h]
  have y3 := filter_all (P := fun t => t.kind == 3) (l := ys) fun y h => by simp [hy y h]
  have z3 := filter_no (P := fun t => t.kind == 3) (l := zs) fun y h => by simp [hz y h]
  have y4 := filter_no (P := fun t => t.kind == 4) (l := ys) fun y h => by simp [hy y h]
  have z4 := filter_all (P := fun t => t.kind == 4) (l := zs) fun y h => by simp [hz y h]
  simp only [List.filter_cons, List.filter_append, y2, z2, y3, z3, y4, z4, ha]
  simp
/- What the walk of a Type asks. -/
theorem type_small {t : T} (h : TypeOk t) : t.text.size ≤ 16 ∧ (kidN (ptOf t.kids).sort 0).text.size ≤ 16 := by
  obtain ⟨h1, a, ys, zs, e, ha, hy, hz⟩ := h
  refine ⟨name_small h1, ?_⟩
  rw [e, ptOf_type ha.1 hy hz]
  show (kidN a 0).text.size ≤ 16
  unfold kidN
  cases hk : a.kids with
  | nil => show zeroT.text.size ≤ 16; decide
  | cons n r => exact name_small (ha.2 n (by rw [hk]; simp))

end Go.Proofs.YtdkdidgeaalcgaaDoor
