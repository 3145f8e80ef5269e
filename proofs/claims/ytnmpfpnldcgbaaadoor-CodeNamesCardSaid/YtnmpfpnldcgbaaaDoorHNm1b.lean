/- append of one term that lies in a new block: what it leaves, and where. -/
import Derived.Test.YtnmpfpnldcgbaaaDoorHNm2
namespace Go.Proofs.YtnmpfpnldcgbaaaDoor
open Go.RowKit

theorem wp_append_tm {P : Program} {o : Oper} {a : Act} {w : World} {K : Act → World → Prop} {Q : Exit → Act → World → Prop} (s x : Operand) {t e : TypeId} (ho : o.op = .call { callee := .builtin .append, args := #[s, x], argTypes := #[t, t] })
    {i : TypeInfo} {z : Value} (I : RowInfo P t e 2 24 i z) {v : Value} {ts : List Tm} (hs : a.eval s = v) (hown : w.ownsRow 0 e 2 v ts.length (tmsCells ts)) {b : Nat} {c : Nat} {u : Tm} (hx : a.eval x = .slice (some ⟨b, 0, none⟩) 1 c)
    (hg : Blk w b (tmCells u) e) (h63 : ts.length + 1 ≤ maxLen) (hbytes : (ts.length + 1) * 24 ≤ 140737488355328)
    (h : ∀ v' w', w'.ownsRow 0 e 2 v' (ts ++ [u]).length (tmsCells (ts ++ [u])) → w.grownBy w' v.ownBlock → (v'.ownBlock = v.ownBlock ∨ v'.ownBlock = some w.heap.size) → K (a.put o.dst v') w') : o.wp P a w K Q := by
  have hT : TmsAt w w.heap.size (some ⟨b, 0, none⟩) [u] := fun _ => ⟨b, 0, rfl, hg.lt, fun i t ht => by
    cases i with
    | zero =>
      obtain rfl : u = t := by simpa using ht
      exact ⟨hg.cell 0, hg.cell 1⟩
    | succ i => simp at ht⟩
  obtain ⟨v', w', hr, h2, h3⟩ := run_append_tms (ty := o.type) (us := [u]) I w hown (c := c) hT h63 hbytes (Nat.zero_le _)
  have hbk := append_blockN (ty := o.type) (m := 1) I.ht I.hi I.hz I.size I.bytes hown (by omega) (tmsCells_length [u]) (fun j y hj => hT.cells j y hj) (tmsCells_one [u]) h63 hbytes hr
  unfold Oper.wp execOp
  simp only [ho, resolve, invoke, builtin, Sem.run_bind, Sem.run_pure, Result.andThen_ok, List.map_toArray, List.map_cons, List.map_nil, hs, hx]
  rw [show ([u] : List Tm).length = 1 from rfl] at hr
  rw [hr]
  refine h v' w' ?_ h3 hbk
  rw [List.length_append]
  exact h2

end Go.Proofs.YtnmpfpnldcgbaaaDoor
