/- The contract of lychgateref07.Names: the names that an instruction reads, in new memory. -/
import Derived.Test.YtnmpfpnldcgbaaaDoorHNm7
import Derived.Test.YtnmpfpnldcgbaaaDoorHNm8
namespace Go.Proofs.YtnmpfpnldcgbaaaDoor
open Go.RowKit

theorem refNames_any {w : World} {op pl : Int} {x y : ByteArray} {a b : Tm} {A : Option Addr} {cap : Nat} {tt : Int} {has : Bool} {ts : List Tm} (hT : TmsAt w w.heap.size A ts) (hb : (ts.length + 2) * 24 ≤ 140737488355328) :
    Calls Tryd.prog 20 #[InstrV op pl x y a b (.slice A ts.length cap) tt has] w fun e w' => ∃ v, e = .returned v ∧ StrsAt w' (namesI op y (a :: b :: ts)) (fun k => w.heap.size ≤ k) v ∧ Below w.heap.size w w' := by
  obtain ⟨an, am⟩ := a
  obtain ⟨bn, bm⟩ := b
  cases h12 : (decide (5 ≤ op) && decide (op ≤ 9)) with
  | true =>
    cases ha : (an.toList == ([] : List UInt8)) with
    | false =>
      cases hbn : (bn.toList == ([] : List UInt8)) with
      | false => exact refNames_ttt hT hb rfl rfl h12 ha hbn
      | true => exact refNames_ttf hT hb rfl rfl h12 ha hbn
    | true =>
      cases hbn : (bn.toList == ([] : List UInt8)) with
      | false => exact refNames_tft hT hb rfl rfl h12 ha hbn
      | true => exact refNames_tff hT hb rfl rfl h12 ha hbn
  | false =>
    cases ha : (an.toList == ([] : List UInt8)) with
    | false =>
      cases hbn : (bn.toList == ([] : List UInt8)) with
      | false => exact refNames_ftt hT hb rfl rfl h12 ha hbn
      | true => exact refNames_ftf hT hb rfl rfl h12 ha hbn
    | true =>
      cases hbn : (bn.toList == ([] : List UInt8)) with
      | false => exact refNames_fft hT hb rfl rfl h12 ha hbn
      | true => exact refNames_fff hT hb rfl rfl h12 ha hbn

end Go.Proofs.YtnmpfpnldcgbaaaDoor
