/- lychgateref06.Alloc as one of several things that lie apart; two things as one. -/
import Derived.Test.YtnjndggdnmboeaaMRefAlloc2
namespace Go.Proofs.Ytnjndggdnmboeaa
open Go.RowKit

section
variable {w W : World} {l l' : List Thing} {b : Nat} {s s' : MS}
theorem Sep.ralloc (h : Sep w W l) (i : Nat) (hi : l[i]? = some (refT b s)) (n : Int) {v : MV} {ok : Bool} (hs : allocS s n = s' ∧ allocV s n = v ∧ allocOK s n = ok) (hl : l.set i (refT b s') = l') :
    Calls Try.prog 19 #[.pointer (some ⟨b, 0, none⟩), .int .i64 n] W (RSPost w l' (.tuple #[.agg #[.int .i64 v.kind, .int .i64 v.n, .int .i64 v.block], .bool ok])) := by
  obtain ⟨rfl, rfl, rfl⟩ := hs
  subst hl
  obtain ⟨F, hF, hn⟩ := h.refCall i hi
  refine (refAlloc_any hF n).mono ?_
  rintro e W' ⟨rfl, hm, hc⟩
  exact ⟨rfl, hn W' _ hc hm⟩
theorem Sep.drew (h : Sep w W l) : Sep w W.drew l := h.quiet ((Below.refl _ _).drew)
end

def pairT (A B : Thing) : Thing where
  P w F := ∃ F1 F2, A.P w F1 ∧ B.P w F2 ∧ (∀ k, F1 k → F k ∧ k < w.heap.size) ∧ (∀ k, F2 k → F k ∧ k < w.heap.size) ∧ ∀ k, F1 k → F2 k → False
  stay := fun h hs hb => by
    obtain ⟨F1, F2, h1, h2, h3, h4, h5⟩ := h
    exact ⟨F1, F2, A.stay h1 hs (fun k hk hF => hb k hk (h3 k hF).1), B.stay h2 hs (fun k hk hF => hb k hk (h4 k hF).1), fun k hF => ⟨(h3 k hF).1, Nat.lt_of_lt_of_le (h3 k hF).2 hs⟩, fun k hF => ⟨(h4 k hF).1, Nat.lt_of_lt_of_le (h4 k hF).2 hs⟩, h5⟩
  more := fun h hF => by
    obtain ⟨F1, F2, h1, h2, h3, h4, h5⟩ := h
    exact ⟨F1, F2, h1, h2, fun k hk => ⟨hF k (h3 k hk).2 (h3 k hk).1, (h3 k hk).2⟩, fun k hk => ⟨hF k (h4 k hk).2 (h4 k hk).1, (h4 k hk).2⟩, h5⟩

theorem Sep.pair {w W : World} {A B C D : Thing} (h : Sep w W [A, B, C, D]) : Sep w W [A, B, pairT C D] := by
  obtain ⟨F, h⟩ := h
  refine ⟨fun i k => if i = 2 then F 2 k ∨ F 3 k else if i < 2 then F i k else False, h.below, ?_, ?_, ?_⟩
  · intro i T hT
    match i, hT with
    | 0, hT => exact h.holds 0 T hT
    | 1, hT => exact h.holds 1 T hT
    | 2, hT =>
      have : pairT C D = T := by simpa using hT
      subst this
      exact ⟨F 2, F 3, h.holds 2 C rfl, h.holds 3 D rfl, fun k hk => ⟨.inl hk, (h.above 2 k hk).2⟩, fun k hk => ⟨.inr hk, (h.above 3 k hk).2⟩, fun k h2 h3 => h.apart 2 3 k (by decide) h2 h3⟩
  · intro i k hk
    by_cases h2 : i = 2
    · subst h2
      simp only [if_pos] at hk
      rcases hk with hk | hk
      · exact h.above 2 k hk
      · exact h.above 3 k hk
    · simp only [if_neg h2] at hk
      split at hk
      · exact h.above i k hk
      · exact hk.elim
  · intro i j k hij hi hj
    have key : ∀ i, (if i = 2 then F 2 k ∨ F 3 k else if i < 2 then F i k else False) → (i = 2 ∧ (F 2 k ∨ F 3 k)) ∨ (i < 2 ∧ F i k) := by
      intro i hi
      by_cases h2 : i = 2
      · subst h2
        simp only [if_pos] at hi
        exact .inl ⟨rfl, hi⟩
      · simp only [if_neg h2] at hi
        split at hi
        · rename_i h3
          exact .inr ⟨h3, hi⟩
        · exact hi.elim
    rcases key i hi with ⟨rfl, h1⟩ | ⟨h0, h1⟩
    · rcases key j hj with ⟨rfl, h2⟩ | ⟨h3, h2⟩
      · exact hij rfl
      · rcases h1 with h1 | h1
        · exact h.apart 2 j k (by omega) h1 h2
        · exact h.apart 3 j k (by omega) h1 h2
    · rcases key j hj with ⟨rfl, h2⟩ | ⟨h3, h2⟩
      · rcases h2 with h2 | h2
        · exact h.apart i 2 k (by omega) h1 h2
        · exact h.apart i 3 k (by omega) h1 h2
      · exact h.apart i j k hij h1 h2
theorem Sep.unpair {w W : World} {A B C D : Thing} (h : Sep w W [A, B, pairT C D]) : Sep w W [A, B, C, D] := by
  obtain ⟨F, h⟩ := h
  obtain ⟨F1, F2, hC, hD, h3, h4, h5⟩ := h.holds 2 _ rfl
  refine ⟨fun i k => if i = 2 then F1 k else if i = 3 then F2 k else if i < 2 then F i k else False, h.below, ?_, ?_, ?_⟩
  · intro i T hT
    match i, hT with
    | 0, hT => exact h.holds 0 T hT
    | 1, hT => exact h.holds 1 T hT
    | 2, hT =>
      have : C = T := by simpa using hT
      subst this
      exact hC
    | 3, hT =>
      have : D = T := by simpa using hT
      subst this
      exact hD
  · intro i k hk
    by_cases h2 : i = 2
    · subst h2
      simp only [if_pos] at hk
      exact h.above 2 k (h3 k hk).1
    · by_cases h33 : i = 3
      · subst h33
        have hk : F2 k := by simpa using hk
        exact h.above 2 k (h4 k hk).1
      · simp only [if_neg h2, if_neg h33] at hk
        split at hk
        · exact h.above i k hk
        · exact hk.elim
  · intro i j k hij hi hj
    have key : ∀ i, (if i = 2 then F1 k else if i = 3 then F2 k else if i < 2 then F i k else False) → (i = 2 ∧ F1 k) ∨ (i = 3 ∧ F2 k) ∨ (i < 2 ∧ F i k) := by
      intro i hi
      by_cases h2 : i = 2
      · subst h2
        simp only [if_pos] at hi
        exact .inl ⟨rfl, hi⟩
      · by_cases h33 : i = 3
        · subst h33
          have hi : F2 k := by simpa using hi
          exact .inr (.inl ⟨rfl, hi⟩)
        · simp only [if_neg h2, if_neg h33] at hi
          split at hi
          · rename_i h6
            exact .inr (.inr ⟨h6, hi⟩)
          · exact hi.elim
    rcases key i hi with ⟨rfl, h1⟩ | ⟨rfl, h1⟩ | ⟨h0, h1⟩ <;> rcases key j hj with ⟨rfl, h2⟩ | ⟨rfl, h2⟩ | ⟨h6, h2⟩
    · exact hij rfl
    · exact h5 k h1 h2
    · exact h.apart 2 j k (by omega) (h3 k h1).1 h2
    · exact h5 k h2 h1
    · exact hij rfl
    · exact h.apart 2 j k (by omega) (h4 k h1).1 h2
    · exact h.apart i 2 k (by omega) h1 (h3 k h2).1
    · exact h.apart i 2 k (by omega) h1 (h4 k h2).1
    · exact h.apart i j k hij h1 h2

end Go.Proofs.Ytnjndggdnmboeaa
