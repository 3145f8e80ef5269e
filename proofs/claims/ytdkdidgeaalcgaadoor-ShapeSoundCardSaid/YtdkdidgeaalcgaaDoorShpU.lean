/- The types of a tree are sound: their names differ, their numbers are of fields that are there, arrays are as long as a number, guards are of locks. Nothing of the program is walked here. -/
import Derived.Test.YtdkdidgeaalcgaaDoorShpS
namespace Go.Proofs.YtdkdidgeaalcgaaDoor
open Go.RowKit

/- What is told of a type with so many types ahead of it. -/
structure Good (tys : List Ty) (x : Ty) : Prop where
  len : x.fields.length ≤ 8
  size : ∀ (j : Nat) (f : ByteArray × Int), x.fields[j]? = some f → f.2 = -1 ∨ (x.sort = 0 ∧ ∃ k : Nat, f.2 = k ∧ ∃ g, x.fields[k]? = some g ∧ g.2 = -1)
  fact : ∀ f ∈ x.facts, (0 ≤ f.x ∧ f.x ≤ x.fields.length) ∧ (0 ≤ f.y ∧ f.y ≤ x.fields.length)
  of : (x.sort = 2 ∨ x.sort = 3) → ∃ k : Nat, x.of = k ∧ ∃ g, x.fields[k]? = some g ∧ g.2 = -1
  guard : x.sort = 4 → ∃ k : Nat, x.of = k ∧ ∃ y, tys[k]? = some y ∧ y.sort = 3

theorem sortN_in (s : ByteArray) : 0 ≤ sortN s ∧ sortN s ≤ 4 := by
  unfold sortN
  cases s.toList == [99, 101, 108, 108] <;> cases s.toList == [99, 111, 117, 110, 116, 101, 100] <;> cases s.toList == [108, 111, 99, 107] <;> cases s.toList == [103, 117, 97, 114, 100] <;> simp
theorem num_field {fs : List T} {srt : Int} {i : Nat} {fl : List (ByteArray × Int)} (h : fldsF fs srt i fs = .ok fl) {s : ByteArray} {k : Nat} (hk : numF fs s = some k) : ∃ g, fl[k]? = some g ∧ g.2 = -1 := by
  obtain ⟨t, ht, he⟩ := numF_at hk
  obtain ⟨z, hz, e⟩ := (fldsF_get fs h).2 k t ht
  refine ⟨_, e, ?_⟩
  rcases fldP_val hz with ⟨_, rfl⟩ | ⟨e1, _⟩
  · rfl
  · rw [he] at e1; cases e1
theorem varP_le {fs : List T} {srt of : Int} {t : T} {k : Nat} (h : varP fs srt of t = some k) : k ≤ fs.length := by
  unfold varP at h
  cases he : t.text.toList == []
  · rw [he] at h
    cases hn : numF fs t.text with
    | none => rw [hn] at h; cases h
    | some i =>
      rw [hn] at h
      have := numF_lt hn
      simp only [cond_false] at h
      cases hb : keptB srt of i
      · rw [hb] at h; simp at h; omega
      · rw [hb] at h; cases h
  · rw [he] at h; simp at h; omega
theorem factsL_in {c : ByteArray} {a b : Nat} {k l : Int} {n : Nat} (ha : a ≤ n) (hb : b ≤ n) : ∀ f ∈ factsL c a b k l, (0 ≤ f.x ∧ f.x ≤ n) ∧ (0 ≤ f.y ∧ f.y ≤ n) := by
  unfold factsL
  intro f hf
  cases h1 : c.toList == [60] <;> rw [h1] at hf
  · cases h2 : c.toList == [60, 61] <;> rw [h2] at hf
    · cases h3 : c.toList == [61, 61] <;> rw [h3] at hf
      · simp at hf
      · simp only [cond_false, cond_true, List.mem_cons, List.not_mem_nil, or_false] at hf
        rcases hf with rfl | rfl <;> simp only <;> omega
    · simp only [cond_false, cond_true, List.mem_cons, List.not_mem_nil, or_false] at hf
      subst hf
      simp only
      omega
  · simp only [cond_true, List.mem_cons, List.not_mem_nil, or_false] at hf
    subst hf
    simp only
    omega
theorem factsF_in {fs : List T} {srt of : Int} : ∀ (l : List T) {fc : List Fa}, factsF fs srt of l = .ok fc → ∀ f ∈ fc, (0 ≤ f.x ∧ f.x ≤ fs.length) ∧ (0 ≤ f.y ∧ f.y ≤ fs.length)
  | [], fc, h => by cases h; intro f hf; simp at hf
  | n :: r, fc, h => by
    rw [factsF] at h
    cases hz : factF fs srt of n with
    | error e => rw [hz] at h; cases h
    | ok q =>
      rw [hz] at h
      obtain ⟨y, hy, rfl⟩ := pre_ok h
      intro f hf
      rcases List.mem_append.1 hf with hf | hf
      · unfold factF at hz
        split at hz
        · rename_i a b ha hb
          cases hz
          exact factsL_in (varP_le ha) (varP_le hb) f hf
        · cases hz
      · exact factsF_in r hy f hf
theorem oneP_good {tys : List Ty} {n : T} {x : Ty} (h : oneP tys n = .ok x) : Good tys x ∧ fndY tys x.name = none := by
  obtain ⟨hn, hl, fl, o, fc, h1, h2, h3, rfl⟩ := oneP_inv h
  obtain ⟨hfl, hg⟩ := fldsF_get _ h1
  refine ⟨⟨?_, ?_, ?_, ?_, ?_⟩, hn⟩
  · show fl.length ≤ 8; omega
  · intro j f hf
    have hjl : j < (ptOf n.kids).fields.length := by have := (List.getElem?_eq_some_iff.1 hf).1; simp only at this; omega
    obtain ⟨z, hz, e⟩ := hg j _ (List.getElem?_eq_getElem hjl)
    obtain rfl : f = ((ptOf n.kids).fields[j].text, z) := Option.some.inj (hf.symm.trans e)
    rcases fldP_val hz with ⟨_, rfl⟩ | ⟨_, hs, k, rfl, hk⟩
    · exact .inl rfl
    · exact .inr ⟨hs, k, rfl, num_field h1 hk⟩
  · intro f hf
    have := factsF_in _ h3 f hf
    simp only
    rw [hfl]
    exact this
  · intro hs
    have hb : (sortN (ptOf n.kids).sort.text == 2 || sortN (ptOf n.kids).sort.text == 3) = true := by simp only at hs; simpa using hs
    unfold ofP at h2
    rw [hb] at h2
    simp only [cond_true] at h2
    cases hk : numF (ptOf n.kids).fields (kidN (ptOf n.kids).sort 0).text with
    | none => rw [hk] at h2; cases h2
    | some k => rw [hk] at h2; cases h2; exact ⟨k, rfl, num_field h1 hk⟩
  · intro hs
    simp only at hs
    unfold ofP at h2
    rw [hs] at h2
    have e1 : ((4 : Int) == 2 || (4 : Int) == 3) = false := rfl
    have e2 : ((4 : Int) == 4) = true := rfl
    rw [e1, e2] at h2
    simp only [cond_true, cond_false] at h2
    cases hk : fndY tys (kidN (ptOf n.kids).sort 0).text with
    | none => rw [hk] at h2; cases h2
    | some k =>
      rw [hk] at h2
      simp only at h2
      have hlt := fndF_lt hk
      obtain ⟨y, hy⟩ : ∃ y, tys[k]? = some y := ⟨_, List.getElem?_eq_getElem hlt⟩
      rw [hy] at h2
      simp only [Option.map_some, Option.getD_some] at h2
      cases hso : y.sort != 3
      · rw [hso] at h2
        simp only [cond_false] at h2
        cases hee : (!(ptOf n.kids).fields.isEmpty || !(ptOf n.kids).facts.isEmpty)
        · rw [hee] at h2; cases h2; exact ⟨k, rfl, y, hy, by simpa using hso⟩
        · rw [hee] at h2; cases h2
      · rw [hso] at h2; cases h2

theorem Good.more {tys : List Ty} {x : Ty} (h : Good tys x) (zs : List Ty) : Good (tys ++ zs) x :=
  ⟨h.len, h.size, h.fact, h.of, fun hs => by
    obtain ⟨k, e, y, hy, h3⟩ := h.guard hs
    exact ⟨k, e, y, by rw [List.getElem?_append_left (List.getElem?_eq_some_iff.1 hy).1]; exact hy, h3⟩⟩
/- All of a table: each is found by its name at its own place. -/
def Sound (tys : List Ty) : Prop := ∀ (i : Nat) (x : Ty), tys[i]? = some x → Good (tys.take i) x ∧ fndY tys x.name = some i
theorem Sound.snoc {tys : List Ty} {x : Ty} (h : Sound tys) (hg : Good tys x) (hn : fndY tys x.name = none) : Sound (tys ++ [x]) := fun i y hy => by
  rcases Nat.lt_or_ge i tys.length with hlt | hge
  · rw [List.getElem?_append_left hlt] at hy
    obtain ⟨h1, h2⟩ := h i y hy
    refine ⟨by rw [List.take_append_of_le_length (by omega)]; exact h1, ?_⟩
    rw [fndY_snoc, h2]
  · rw [List.getElem?_append_right hge] at hy
    have hi : i = tys.length := by
      rcases Nat.lt_or_ge (i - tys.length) 1 with h | h
      · omega
      · rw [List.getElem?_eq_none (by simpa using h)] at hy; cases hy
    subst hi
    obtain rfl : x = y := by simpa using hy
    refine ⟨by simpa using hg, ?_⟩
    rw [fndY_snoc, hn]
    simp
theorem typesF_sound : ∀ (l : List T) {tys tys' : List Ty}, Sound tys → typesF tys l = .ok tys' → Sound tys'
  | [], tys, tys', hs, h => by cases h; exact hs
  | n :: r, tys, tys', hs, h => by
    rw [typesF] at h
    cases hk : n.kind == 1
    · rw [hk] at h; exact typesF_sound r hs h
    · rw [hk] at h
      simp only [cond_true] at h
      cases ho : oneP tys n with
      | error e => rw [ho] at h; cases h
      | ok x =>
        rw [ho] at h
        obtain ⟨h1, h2⟩ := oneP_good ho
        exact typesF_sound r (hs.snoc h1 h2) h

end Go.Proofs.YtdkdidgeaalcgaaDoor
