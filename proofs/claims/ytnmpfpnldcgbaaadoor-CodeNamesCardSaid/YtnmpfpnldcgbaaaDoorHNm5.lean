/- The contract of code.Names on an instruction that came in: the names that it reads, in new memory. -/
import Derived.Test.YtnmpfpnldcgbaaaDoorHNm3
import Derived.Test.YtnmpfpnldcgbaaaDoorHNm4
namespace Go.Proofs.YtnmpfpnldcgbaaaDoor
open Go.RowKit

theorem codeNames_any {w : World} {op pl : Int} {x y : ByteArray} {a b : Tm} {A : Option Addr} {cap : Nat} {tt : Int} {has : Bool} {ts : List Tm} (hT : TmsAt w w.heap.size A ts) (hb : (ts.length + 2) * 24 ≤ 140737488355328) :
    Calls Tryd.prog 19 #[InstrV op pl x y a b (.slice A ts.length cap) tt has] w fun e w' => ∃ v, e = .returned v ∧ StrsAt w' (namesI op y (a :: b :: ts)) (fun k => w.heap.size ≤ k) v ∧ Below w.heap.size w w' := by
  have hop : op = 5 ∨ op = 6 ∨ op = 7 ∨ op = 8 ∨ op = 9 ∨ ((op == 5) = false ∧ (op == 6) = false ∧ (op == 7) = false ∧ (op == 8) = false ∧ (op == 9) = false ∧ yOf op y = []) := by
    by_cases h : 5 ≤ op ∧ op ≤ 9
    · omega
    · have : yOf op y = [] := by
        unfold yOf
        have h2 : (decide (5 ≤ op) && decide (op ≤ 9)) = false := by simp; omega
        rw [h2]; rfl
      simp only [beq_eq_false_iff_ne, ne_eq]
      exact .inr (.inr (.inr (.inr (.inr ⟨by omega, by omega, by omega, by omega, by omega, this⟩))))
  rcases hop with rfl | rfl | rfl | rfl | rfl | ⟨b5, b6, b7, b8, b9, hy⟩
  · exact codeNames_5 hT hb
  · exact codeNames_6 hT hb
  · exact codeNames_7 hT hb
  · exact codeNames_8 hT hb
  · exact codeNames_9 hT hb
  · exact codeNames_n hT hb b5 b6 b7 b8 b9 hy

end Go.Proofs.YtnmpfpnldcgbaaaDoor
