/- The contract of lychgatelaw06.wakes. -/
import Derived.Test.YtnjndggdnmboeaaMCalls
namespace Go.Proofs.Ytnjndggdnmboeaa
open Go.RowKit

/- The states of wakes' memory, one behind the other. -/
abbrev p1 : MV := ⟨2, 0, 1⟩
def s1 : MS := [⟨true, [c0, c0]⟩]
def s2 : MS := [⟨true, [⟨v0, 1, false⟩, c0]⟩]
def s4 : MS := [⟨true, [⟨v0, 0, true⟩, c0]⟩]
def s6 : MS := [⟨true, [⟨⟨1, 7, 0⟩, 0, false⟩, c0]⟩]
def s7 : MS := [⟨true, [⟨⟨1, 7, 0⟩, 1, false⟩, c0]⟩]
theorem wk1 : allocS [] 2 = s1 ∧ allocV [] 2 = p1 ∧ allocOK [] 2 = true := ⟨rfl, rfl, rfl⟩
theorem wk2 : beginS s1 p1 false = s2 ∧ beginW s1 p1 false = 0 := ⟨rfl, rfl⟩
theorem wk3 : endS s2 p1 false p1 = s1 ∧ endV s2 p1 false = ⟨0, 0, 0⟩ ∧ endW s2 p1 false = 4 := ⟨rfl, rfl, rfl⟩
theorem wk4 : beginS s1 p1 true = s4 ∧ beginW s1 p1 true = 0 := ⟨rfl, rfl⟩
theorem wk5 : beginS s4 p1 false = s4 ∧ beginW s4 p1 false = 6 := ⟨rfl, rfl⟩
theorem wk6 : endS s4 p1 true ⟨1, 7, 0⟩ = s6 ∧ endV s4 p1 true = ⟨0, 0, 0⟩ ∧ endW s4 p1 true = 0 := ⟨rfl, rfl, rfl⟩
theorem wk7 : beginS s6 p1 false = s7 ∧ beginW s6 p1 false = 0 := ⟨rfl, rfl⟩
theorem wk8 : endS s7 p1 false p1 = s6 ∧ endV s7 p1 false = ⟨1, 7, 0⟩ ∧ endW s7 p1 false = 0 := ⟨rfl, rfl, rfl⟩
theorem rd1 : Rd s1 5 := by intro b hb c hc; simp [s1] at hb; subst hb; simp at hc; subst hc; decide
theorem rd2 : Rd s2 5 := by intro b hb c hc; simp [s2] at hb; subst hb; simp at hc; rcases hc with rfl | rfl <;> decide
theorem rd4 : Rd s4 5 := by intro b hb c hc; simp [s4] at hb; subst hb; simp at hc; rcases hc with rfl | rfl <;> decide
theorem rd6 : Rd s6 5 := by intro b hb c hc; simp [s6] at hb; subst hb; simp at hc; rcases hc with rfl | rfl <;> decide
theorem rd7 : Rd s7 5 := by intro b hb c hc; simp [s7] at hb; subst hb; simp at hc; rcases hc with rfl | rfl <;> decide

set_option maxRecDepth 100000 in
set_option maxHeartbeats 4000000 in
theorem wakes_any (w : World) : Calls Try.prog 7 #[] w fun e w' => e = .returned (.bool true) ∧ Below w.heap.size w w' := by
  go_enter Try.func7, Try.ntmps7
  go_wp2_with fail
  ((with_reducible refine ((Sep.start w).newMem rfl).mono ?_); rintro e w1 ⟨rfl, hs⟩)
  generalize w.heap.size = b at *
  have H := Lib.hid hs
  clear hs
  go_wp2_with fail
  ((with_reducible refine (H.out.alloc 0 rfl 2 wk1 rfl).mono ?_); rintro e w2 ⟨rfl, hs⟩)
  have hq : Sep w (w2.alloc (.cells #[.int .i64 2, .int .i64 0, .int .i64 1] 34)) [memT b s1, boxT w2.heap.size (vCells p1) 34] := hs.boxV p1 rfl
  obtain ⟨x0, x1, x2, x3⟩ := hq.boxAt 1 rfl
  have H2 := Lib.hid hq
  clear hs hq
  go_wp2_with fail
  ((with_reducible refine (H2.out.used 0 rfl (u := 3) rfl).mono ?_); rintro e _ ⟨rfl, rfl⟩)
  go_wp2_with fail
  ((with_reducible refine (H2.out.begin 0 rfl p1 false rd1 (by decide) wk2 rfl).mono ?_); rintro e w3 ⟨rfl, hs⟩)
  clear x0 x1 x2 x3
  obtain ⟨x0, x1, x2, x3⟩ := hs.boxAt 1 rfl
  have H3 := Lib.hid hs
  clear hs
  go_wp2_with fail
  ((with_reducible refine (H3.out.end 0 rfl p1 false p1 rd2 (by decide) wk3 rfl).mono ?_); rintro e w4 ⟨rfl, hs⟩)
  clear x0 x1 x2 x3
  have hq : Sep w (w4.alloc (.cells #[.int .i64 0, .int .i64 0, .int .i64 0] 34)) _ := hs.boxV ⟨0, 0, 0⟩ rfl
  obtain ⟨x0, x1, x2, x3⟩ := hq.boxAt 1 rfl
  have H4 := Lib.hid hq
  clear hs hq
  go_wp2_with fail
  ((with_reducible refine (H4.out.begin 0 rfl p1 true rd1 (by decide) wk4 rfl).mono ?_); rintro e w5 ⟨rfl, hs⟩)
  clear x0 x1 x2 x3
  obtain ⟨x0, x1, x2, x3⟩ := hs.boxAt 1 rfl
  have H5 := Lib.hid hs
  clear hs
  go_wp2_with fail
  ((with_reducible refine (H5.out.begin 0 rfl p1 false rd4 (by decide) wk5 rfl).mono ?_); rintro e w6 ⟨rfl, hs⟩)
  clear x0 x1 x2 x3
  obtain ⟨x0, x1, x2, x3⟩ := hs.boxAt 1 rfl
  have H6 := Lib.hid hs
  clear hs
  go_wp2_with fail
  ((with_reducible refine (H6.out.end 0 rfl p1 true ⟨1, 7, 0⟩ rd4 (by decide) wk6 rfl).mono ?_); rintro e w7 ⟨rfl, hs⟩)
  clear x0 x1 x2 x3
  obtain ⟨x0, x1, x2, x3⟩ := hs.boxAt 1 rfl
  have H7 := Lib.hid hs
  clear hs
  go_wp2_with fail
  ((with_reducible refine (H7.out.begin 0 rfl p1 false rd6 (by decide) wk7 rfl).mono ?_); rintro e w8 ⟨rfl, hs⟩)
  clear x0 x1 x2 x3
  obtain ⟨x0, x1, x2, x3⟩ := hs.boxAt 1 rfl
  have H8 := Lib.hid hs
  clear hs
  go_wp2_with fail
  ((with_reducible refine (H8.out.end 0 rfl p1 false p1 rd7 (by decide) wk8 rfl).mono ?_); rintro e w9 ⟨rfl, hs⟩)
  clear x0 x1 x2 x3
  have hq : Sep w (w9.alloc (.cells #[.int .i64 1, .int .i64 7, .int .i64 0] 34)) _ := hs.boxV ⟨1, 7, 0⟩ rfl
  obtain ⟨x0, x1, x2, x3⟩ := hq.boxAt 1 rfl
  have H9 := Lib.hid hq
  clear hs hq
  obtain ⟨y0, y1, y2, y3⟩ := H9.out.boxAt 3 rfl
  go_wp2
  go_ret
  exact ⟨rfl, H9.out.below⟩

end Go.Proofs.Ytnjndggdnmboeaa
