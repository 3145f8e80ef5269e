/- What the types of a tree keep to: they stand in the text's order; their numbers are of fields that are there. Nothing of the program is walked here. -/
import Derived.Test.YtdkdidgeaalcgaaDoorShpP
namespace Go.Proofs.YtdkdidgeaalcgaaDoor
open Go.RowKit

theorem pre_ok {α : Type} {l : List α} {r : E (List α)} {x : List α} (h : pre l r = .ok x) : ∃ y, r = .ok y ∧ x = l ++ y := by
  cases r with
  | error e => cases h
  | ok y => cases h; exact ⟨y, rfl, rfl⟩
theorem fldsF_get {fs : List T} {srt : Int} : ∀ (l : List T) {i : Nat} {fl : List (ByteArray × Int)}, fldsF fs srt i l = .ok fl → fl.length = l.length ∧ ∀ (j : Nat) (f : T), l[j]? = some f → ∃ z, fldP fs srt f = .ok z ∧ fl[j]? = some (f.text, z)
  | [], i, fl, h => by cases h; exact ⟨rfl, fun j f hf => by simp at hf⟩
  | n :: r, i, fl, h => by
    rw [fldsF] at h
    cases hb : (fndT (List.take i fs) n.text).isSome
    · rw [hb] at h
      simp only [cond_false] at h
      cases hz : fldP fs srt n with
      | error e => rw [hz] at h; cases h
      | ok z =>
        rw [hz] at h
        obtain ⟨y, hy, rfl⟩ := pre_ok h
        obtain ⟨h1, h2⟩ := fldsF_get r hy
        refine ⟨by simp [h1], fun j f hf => ?_⟩
        cases j with
        | zero =>
          obtain rfl : n = f := by simpa using hf
          exact ⟨z, hz, rfl⟩
        | succ j =>
          obtain ⟨z', e1, e2⟩ := h2 j f (by simpa using hf)
          exact ⟨z', e1, by simpa using e2⟩
    · rw [hb] at h; cases h
theorem oneP_inv {tys : List Ty} {n : T} {x : Ty} (h : oneP tys n = .ok x) : fndY tys n.text = none ∧ (ptOf n.kids).fields.length ≤ 8 ∧ ∃ fl o fc, fldsF (ptOf n.kids).fields (sortN (ptOf n.kids).sort.text) 0 (ptOf n.kids).fields = .ok fl ∧
    ofP tys (ptOf n.kids) (sortN (ptOf n.kids).sort.text) = .ok o ∧ factsF (ptOf n.kids).fields (sortN (ptOf n.kids).sort.text) o (ptOf n.kids).facts = .ok fc ∧ x = ⟨n.text, sortN (ptOf n.kids).sort.text, o, fl, fc⟩ := by
  unfold oneP at h
  cases hb : (fndY tys n.text).isSome
  · rw [hb] at h
    cases hm : decide (8 < (ptOf n.kids).fields.length)
    · rw [hm] at h
      simp only [cond_false] at h
      refine ⟨by simpa using hb, by simpa using hm, ?_⟩
      cases h1 : fldsF (ptOf n.kids).fields (sortN (ptOf n.kids).sort.text) 0 (ptOf n.kids).fields with
      | error e => rw [h1] at h; cases h
      | ok fl =>
        rw [h1] at h
        simp only at h
        cases h2 : ofP tys (ptOf n.kids) (sortN (ptOf n.kids).sort.text) with
        | error e => rw [h2] at h; cases h
        | ok o =>
          rw [h2] at h
          simp only at h
          cases h3 : factsF (ptOf n.kids).fields (sortN (ptOf n.kids).sort.text) o (ptOf n.kids).facts with
          | error e => rw [h3] at h; cases h
          | ok fc => rw [h3] at h; cases h; exact ⟨fl, o, fc, rfl, rfl, h3, rfl⟩
    · rw [hm] at h; cases h
  · rw [hb] at h; cases h

theorem numF_at {fs : List T} {s : ByteArray} {k : Nat} (h : numF fs s = some k) : ∃ t, fs[k]? = some t ∧ t.kids.isEmpty = true := by
  have hl := numF_lt h
  refine ⟨fs[k], List.getElem?_eq_getElem hl, ?_⟩
  unfold numF at h
  cases hf : fndT fs s with
  | none => rw [hf] at h; cases h
  | some i =>
    rw [hf] at h
    simp only at h
    cases hb : (fs.getD i zeroT).kids.isEmpty with
    | false => rw [hb] at h; cases h
    | true =>
      rw [hb] at h
      simp at h
      subst h
      simpa [List.getD, hl] using hb
theorem fldP_val {fs : List T} {srt : Int} {n : T} {z : Int} (h : fldP fs srt n = .ok z) : (n.kids.isEmpty = true ∧ z = -1) ∨ (n.kids.isEmpty = false ∧ srt = 0 ∧ ∃ k : Nat, z = k ∧ numF fs (kidN n 0).text = some k) := by
  unfold fldP at h
  cases he : n.kids.isEmpty
  · rw [he] at h
    unfold sizeP at h
    right
    cases hs : srt != 0
    · rw [hs] at h
      cases hn : numF fs (kidN n 0).text with
      | none => rw [hn] at h; cases h
      | some k => rw [hn] at h; cases h; exact ⟨rfl, by simpa using hs, k, rfl, rfl⟩
    · rw [hs] at h; cases h
  · rw [he] at h; cases h; exact .inl ⟨rfl, rfl⟩

/- A type is that of a node: its name, its fields. -/
def MkO (n : T) (x : Ty) : Prop :=
  x.name = n.text ∧ x.fields.length = (n.kids.filter (fun t => t.kind == 3)).length ∧ ∀ (j : Nat) (f : T), (n.kids.filter (fun t => t.kind == 3))[j]? = some f → ∃ z, x.fields[j]? = some (f.text, z) ∧ decide (0 ≤ z) = !f.kids.isEmpty
theorem oneP_mk {tys : List Ty} {n : T} {x : Ty} (h : oneP tys n = .ok x) : MkO n x := by
  obtain ⟨_, _, fl, o, fc, h1, _, _, rfl⟩ := oneP_inv h
  obtain ⟨hl, hg⟩ := fldsF_get _ h1
  refine ⟨rfl, hl, fun j f hf => ?_⟩
  obtain ⟨z, hz, e⟩ := hg j f hf
  refine ⟨z, e, ?_⟩
  rcases fldP_val hz with ⟨e1, rfl⟩ | ⟨e1, _, k, rfl, _⟩
  · rw [e1]; rfl
  · rw [e1]; simp
inductive All2 {α β : Type} (R : α → β → Prop) : List α → List β → Prop
  | nil : All2 R [] []
  | cons {a : α} {b : β} {us : List α} {vs : List β} : R a b → All2 R us vs → All2 R (a :: us) (b :: vs)
theorem All2.len {α β : Type} {R : α → β → Prop} {us : List α} {vs : List β} (h : All2 R us vs) : us.length = vs.length := by
  induction h with
  | nil => rfl
  | cons _ _ ih => simp [ih]
theorem All2.get {α β : Type} {R : α → β → Prop} {us : List α} {vs : List β} (h : All2 R us vs) : ∀ (k : Nat) (a : α), us[k]? = some a → ∃ b, vs[k]? = some b ∧ R a b := by
  induction h with
  | nil => intro k a hk; simp at hk
  | cons h1 _ ih =>
    intro k a hk
    cases k with
    | zero => obtain rfl := Option.some.inj (by simpa using hk); exact ⟨_, rfl, h1⟩
    | succ k => obtain ⟨b, e, r⟩ := ih k a (by simpa using hk); exact ⟨b, by simpa using e, r⟩
theorem typesF_order : ∀ (l : List T) {tys tys' : List Ty}, typesF tys l = .ok tys' → ∃ zs, tys' = tys ++ zs ∧ All2 MkO (l.filter (fun t => t.kind == 1)) zs
  | [], tys, tys', h => by cases h; exact ⟨[], by simp, .nil⟩
  | n :: r, tys, tys', h => by
    rw [typesF] at h
    cases hk : n.kind == 1
    · rw [hk] at h
      obtain ⟨zs, e, ha⟩ := typesF_order r h
      exact ⟨zs, e, by rw [show (n :: r).filter (fun t => t.kind == 1) = r.filter (fun t => t.kind == 1) by simp [List.filter, hk]]; exact ha⟩
    · rw [hk] at h
      simp only [cond_true] at h
      cases ho : oneP tys n with
      | error e => rw [ho] at h; cases h
      | ok x =>
        rw [ho] at h
        obtain ⟨zs, e, ha⟩ := typesF_order r h
        exact ⟨x :: zs, by rw [e]; simp, by rw [show (n :: r).filter (fun t => t.kind == 1) = n :: r.filter (fun t => t.kind == 1) by simp [List.filter, hk]]; exact .cons (oneP_mk ho) ha⟩
/- What is left of a filtered list. -/
theorem filter_at {P : T → Bool} : ∀ {l : List T} {k : Nat} {t : T}, l[k]? = some t → P t = true → (l.filter P)[((l.take k).filter P).length]? = some t
  | [], k, t, h, _ => by simp at h
  | a :: l, 0, t, h, hp => by
    obtain rfl : a = t := by simpa using h
    rw [List.filter_cons_of_pos hp]
    rfl
  | a :: l, k + 1, t, h, hp => by
    have ih := filter_at (l := l) (k := k) (t := t) (by simpa using h) hp
    rw [List.take_succ_cons]
    cases ha : P a
    · rw [List.filter_cons_of_neg (by rw [ha]; decide), List.filter_cons_of_neg (by rw [ha]; decide)]; exact ih
    · rw [List.filter_cons_of_pos ha, List.filter_cons_of_pos ha]; simpa using ih
theorem filter_next {P : T → Bool} {l : List T} {k : Nat} {t : T} (h : l[k]? = some t) : ((l.take (k + 1)).filter P).length = ((l.take k).filter P).length + (bif P t then 1 else 0) := by
  rw [List.take_add_one, h, List.filter_append]
  cases ht : P t <;> simp [List.filter, ht]

end Go.Proofs.YtdkdidgeaalcgaaDoor
