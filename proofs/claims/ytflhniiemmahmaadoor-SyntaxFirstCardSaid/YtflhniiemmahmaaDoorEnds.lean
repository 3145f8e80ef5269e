/- What lex.Tokens leaves, whatever it comes to. -/
import Derived.Test.YtflhniiemmahmaaDoorRow
import Derived.Test.YtflhniiemmahmaaDoorJoin
namespace Go.Proofs.YtflhniiemmahmaaDoor
open Go.RowKit

theorem below_draws {B : Nat} {a w : World} (h : Below B a w) (n : Nat) : Below B a (w.drewN n) := ⟨h.os, h.tape, h.output, h.size, h.block⟩

theorem lexAll_err {s : ByteArray} {k : Nat} {c : Int} (h : lexAll s = .error (k, c)) : 10 ≤ c ∧ c ≤ 13 := by
  unfold lexAll at h
  split at h
  · cases h; decide
  · have := tokAt_err (lex_fault 0 h).2.2.2.2
    omega

/- What lex.Tokens leaves, whatever it comes to: its three results, and that nothing was changed. -/
def TokEnd (r : LexRes) (w : World) (e : Ending) (w' : World) : Prop :=
  ∃ (v : Value) (p c : Int), e = .returned (.tuple #[v, .int .i64 p, .int .i64 c]) ∧ (c = 0 ↔ ∃ ts, r = .ok ts) ∧ Below w.heap.size w w'

theorem tokens_end (s : ByteArray) (w : World) (hs : s.size ≤ maxLen) (ht : Tabs w) : Calls Tryd.prog 18 #[.string s] w (TokEnd (lexAll s) w) := by
  refine (tokens_any s w hs ht).mono ?_
  intro e w' h
  cases hr : lexAll s with
  | ok ts =>
    rw [hr] at h
    obtain ⟨v, he, _, hb⟩ := h
    exact ⟨v, 0, 0, he, by simp, hb⟩
  | error x =>
    obtain ⟨k, c⟩ := x
    rw [hr] at h
    obtain ⟨he, hb⟩ := h
    have := lexAll_err hr
    exact ⟨_, _, c, he, ⟨fun h0 => by omega, fun ⟨_, h0⟩ => by cases h0⟩, hb⟩

end Go.Proofs.YtflhniiemmahmaaDoor
