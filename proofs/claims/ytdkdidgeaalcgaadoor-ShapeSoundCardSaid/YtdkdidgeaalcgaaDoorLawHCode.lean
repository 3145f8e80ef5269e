/- The numbers of the faults of types. Nothing of the program is walked here. -/
import Derived.Test.YtdkdidgeaalcgaaDoorShpP
namespace Go.Proofs.YtdkdidgeaalcgaaDoor
open Go.RowKit

def CodeOk {α : Type} (r : E α) : Prop := ∀ p c, r = .error (p, c) → 22 ≤ c ∧ c ≤ 33
theorem code_ok {α : Type} (a : α) : CodeOk (.ok a : E α) := fun p c h => by cases h
theorem code_err {α : Type} {q : Nat} {d : Int} (h : 22 ≤ d ∧ d ≤ 33) : CodeOk (.error (q, d) : E α) := fun p c e => by cases e; exact h
theorem code_pre {α : Type} {l : List α} {r : E (List α)} (h : CodeOk r) : CodeOk (pre l r) := fun p c e => by
  cases r with
  | ok a => cases e
  | error q => exact h p c (by simpa [pre] using e)
theorem fld_code {fs : List T} {srt : Int} {n : T} : CodeOk (fldP fs srt n) := by
  unfold fldP sizeP
  cases n.kids.isEmpty
  · cases (srt != 0 || (numF fs (kidN n 0).text).isNone)
    · exact code_ok _
    · exact code_err (by decide)
  · exact code_ok _
theorem flds_code {fs : List T} {srt : Int} : ∀ (l : List T) (i : Nat), CodeOk (fldsF fs srt i l)
  | [], i => code_ok _
  | n :: r, i => by
    rw [fldsF]
    cases (fndT (List.take i fs) n.text).isSome
    · simp only [cond_false]
      cases h : fldP fs srt n with
      | error e => obtain ⟨p, c⟩ := e; exact code_err (fld_code p c h)
      | ok z => exact code_pre (flds_code r (i + 1))
    · exact code_err (by decide)
theorem of_code {tys : List Ty} {p : Pt} {srt : Int} : CodeOk (ofP tys p srt) := by
  unfold ofP
  cases (srt == 2 || srt == 3)
  · cases srt == 4
    · exact code_ok _
    · simp only [cond_false, cond_true]
      cases fndY tys (kidN p.sort 0).text with
      | none => exact code_err (by decide)
      | some k =>
        simp only
        cases (tys[k]?.map (·.sort)).getD 0 != 3
        · cases (!p.fields.isEmpty || !p.facts.isEmpty)
          · exact code_ok _
          · exact code_err (by decide)
        · exact code_err (by decide)
  · simp only [cond_true]
    cases numF p.fields (kidN p.sort 0).text with
    | none => exact code_err (by decide)
    | some k => exact code_ok _
theorem facts_code {fs : List T} {srt of : Int} : ∀ l : List T, CodeOk (factsF fs srt of l)
  | [] => code_ok _
  | n :: r => by
    rw [factsF]
    cases h : factF fs srt of n with
    | error e =>
      obtain ⟨p, c⟩ := e
      unfold factF at h
      split at h
      · cases h
      · cases h; exact code_err (by decide)
    | ok l => exact code_pre (facts_code r)
theorem one_code {tys : List Ty} {n : T} : CodeOk (oneP tys n) := by
  unfold oneP
  cases (fndY tys n.text).isSome
  · cases decide (8 < (ptOf n.kids).fields.length)
    · simp only [cond_false]
      cases h1 : fldsF (ptOf n.kids).fields (sortN (ptOf n.kids).sort.text) 0 (ptOf n.kids).fields with
      | error e => obtain ⟨p, c⟩ := e; exact code_err (flds_code _ _ p c h1)
      | ok fl =>
        simp only
        cases h2 : ofP tys (ptOf n.kids) (sortN (ptOf n.kids).sort.text) with
        | error e => obtain ⟨p, c⟩ := e; exact code_err (of_code p c h2)
        | ok o =>
          simp only
          cases h3 : factsF (ptOf n.kids).fields (sortN (ptOf n.kids).sort.text) o (ptOf n.kids).facts with
          | error e => obtain ⟨p, c⟩ := e; exact code_err (facts_code _ p c h3)
          | ok fc => exact code_ok _
    · exact code_err (by decide)
  · exact code_err (by decide)
theorem types_code : ∀ (l : List T) (tys : List Ty), CodeOk (typesF tys l)
  | [], tys => code_ok _
  | n :: r, tys => by
    rw [typesF]
    cases n.kind == 1
    · exact types_code r tys
    · simp only [cond_true]
      cases h : oneP tys n with
      | error e => obtain ⟨p, c⟩ := e; exact code_err (one_code p c h)
      | ok x => exact types_code r _

end Go.Proofs.YtdkdidgeaalcgaaDoor
