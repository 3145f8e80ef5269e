/- The contract of mem.Memory's Alloc. -/
import Derived.Test.YtnjndggdnmboeaaMOps4
import Derived.Deep.AppendLies
namespace Go.Proofs.Ytnjndggdnmboeaa
open Go.RowKit

theorem flat_get {α : Type} (l : List α) (k : Nat) (hl : l.length = k) (hk : 0 < k) : ∀ (n q : Nat), q < n * k → (List.replicate n l).flatten[q]? = l[q % k]?
  | 0, q, h => by omega
  | n + 1, q, h => by
    rw [List.replicate_succ, List.flatten_cons]
    by_cases hq : q < k
    · rw [List.getElem?_append_left (by omega), Nat.mod_eq_of_lt hq]
    · rw [List.getElem?_append_right (by omega), hl, flat_get l k hl hk n (q - k) (by rw [Nat.succ_mul] at h; omega)]
      congr 1
      exact (Nat.mod_eq_sub_mod (by omega)).symm
theorem made_flat (z : Array Value) (k : Nat) (hz : z.size = k) (hk : 0 < k) (n : Nat) : (madeCells z (n * k)).toList = (List.replicate n z.toList).flatten := by
  subst hz
  apply List.ext_getElem?
  intro q
  by_cases hq : q < n * z.size
  · rw [flat_get z.toList z.size (by simp) hk n q hq]
    have hm : q % z.size < z.size := Nat.mod_lt _ hk
    simp only [madeCells, Array.toList_map, List.getElem?_map, Array.toList_range, List.getElem?_range hq, Option.map_some, Array.getElem?_toList]
    rw [Array.getElem?_eq_getElem hm, getElem!_pos z _ hm]
  · rw [List.getElem?_eq_none (by simp [madeCells]; omega), List.getElem?_eq_none (by simp; omega)]

theorem Try.infoCell : (Try.prog.info? 82).map (fun i => (i.zero, i.size, i.bytes)) = some (some (.agg #[.int .i64 0, .int .i64 0, .int .i64 0, .int .i64 0, .bool false]), 5, 40) := by kernel_rfl
theorem Try.infoBlock : (Try.prog.info? 75).map (fun i => (i.zero, i.size, i.bytes)) = some (some (.agg #[.bool false, .slice none 0 0]), 2, 32) := by kernel_rfl

theorem run_make_cells (n : Nat) (hn : n ≤ 65536) (w : World) :
    (Instr.makeSlice 73 (.int .i64 (n : Int)) (.int .i64 (n : Int))).run Try.prog w = .ok (.slice (some ⟨w.heap.size, 0, none⟩) n n) (w.alloc (.cells (cRow (List.replicate n c0)).toArray 82)) := by
  obtain ⟨i, h1, h2, h3, h4⟩ := info_parts Try.infoCell
  have hr := run_make (P := Try.prog) w 73 82 i _ Try.underlying73 h1 h2 .i64 .i64 n n (by omega) (Int.le_refl _) (by rw [h4]; omega) (by omega)
  simp only [Int.toNat_natCast, h3] at hr
  rw [hr]
  have e2 : madeCells (Value.agg #[.int .i64 0, .int .i64 0, .int .i64 0, .int .i64 0, .bool false]).cells (n * 5) = (cRow (List.replicate n c0)).toArray := by
    rw [← Array.toList_inj]
    have := made_flat #[.int .i64 0, .int .i64 0, .int .i64 0, .int .i64 0, .bool false] 5 rfl (by omega) n
    refine Eq.trans ?_ (this.trans ?_)
    · rfl
    · rw [cRow_rep]
      rfl
  rw [e2]

theorem MemIs.alloc {w W w3 : World} {b : Nat} {v : Value} {gs : List Nat} {s : MS} (h : MemIs w b v gs s) (hb : Below w.heap.size w W) {g1 k : Nat} (hg1 : Blk W g1 (cRow (List.replicate k c0)) 82) (hg1l : w.heap.size ≤ g1) {g cap : Nat}
    (hown : w3.ownsRow 0 75 2 (.slice (some ⟨g, 0, none⟩) (s.length + 1) cap) (s.length + 1) (bRow s gs ++ bCells ⟨true, List.replicate k c0⟩ g1)) (hgrow : W.grownBy w3 v.ownBlock) (hg : v.ownBlock = some g ∨ g = W.heap.size) (hu : usedS s + k + 1 ≤ 4096) (u : Int) (hU : u = (usedS s : Int) + k + 1) :
    MemIs ((w3.setCell ⟨b, 0, none⟩ (.slice (some ⟨g, 0, none⟩) (s.length + 1) cap)).setCell ⟨b, 1, none⟩ (.int .i64 u)) b (.slice (some ⟨g, 0, none⟩) (s.length + 1) cap) (gs ++ [g1]) (s ++ [⟨true, List.replicate k c0⟩]) := by
  subst hU
  have e1 : usedS (s ++ [⟨true, List.replicate k c0⟩]) = usedS s + k + 1 := by rw [usedS_append]; simp
  have hbw : b < w.heap.size := h.blk.lt
  have hbW := hb.size
  have hgb : g ≠ b := by
    rcases hg with hg | hg
    · exact (h.nv g hg).1
    · omega
  have hgg : g ∉ gs := by
    rcases hg with hg | hg
    · exact (h.nv g hg).2
    · intro hm
      have := h.lt g hm
      omega
  have hW := h.below hb
  have hvW : ∀ x, x < W.heap.size → v.ownBlock ≠ some x → w3.heap[x]? = W.heap[x]? := fun x hx hn => hgrow.block x hx (Ne.symm hn)
  have hg1g : g ≠ g1 := by
    rcases hg with hg | hg
    · have := row_lt h.row hg
      omega
    · have := hg1.lt
      omega
  have hvb : v.ownBlock ≠ some b := fun e => (h.nv b e).1 rfl
  refine ⟨?_, ?_, by simp [h.len], ?_, ?_, ?_, ?_, by rw [e1]; exact hu⟩
  · have hbb := ((hW.blk.same (hvW b (by omega) hvb)).put 0 (.slice (some ⟨g, 0, none⟩) (s.length + 1) cap)).put 1 (.int .i64 ((usedS s : Int) + k + 1))
    rw [e1]
    exact hbb
  · have hrow := row_same hown (w' := (w3.setCell ⟨b, 0, none⟩ (.slice (some ⟨g, 0, none⟩) (s.length + 1) cap)).setCell ⟨b, 1, none⟩ (.int .i64 ((usedS s : Int) + k + 1))) (fun x hx => by
      cases hx
      rw [Below.heap_setCell _ _ _ _ (by show g ≠ b; exact hgb), Below.heap_setCell _ _ _ _ (by show g ≠ b; exact hgb)])
    rw [List.length_append, bRow_append h.len]
    exact hrow
  · intro i a x ha hx
    have hlt := (List.getElem?_eq_some_iff.1 ha).1
    rw [List.length_append] at hlt
    by_cases hi : i < s.length
    · rw [List.getElem?_append_left hi] at ha
      rw [List.getElem?_append_left (by rw [h.len]; exact hi)] at hx
      have hxm := List.mem_of_getElem? hx
      have hxb : x ≠ b := fun e => h.nb (e ▸ hxm)
      have hxl := h.lt x hxm
      exact (((hW.cells i a x ha hx).same (hvW x (by omega) (fun e => (h.nv x e).2 hxm))).far (by show x ≠ b; exact hxb) _).far (by show x ≠ b; exact hxb) _
    · have hi2 : i = s.length := by simp at hlt; omega
      subst hi2
      rw [List.getElem?_append_right (Nat.le_refl _)] at ha
      rw [List.getElem?_append_right (by rw [h.len]; exact Nat.le_refl _), h.len] at hx
      simp at ha hx
      subst ha
      subst hx
      have hxb : g1 ≠ b := by omega
      exact ((hg1.same (hvW g1 hg1.lt (fun e => by have := row_lt h.row e; omega))).far (by show g1 ≠ b; exact hxb) _).far (by show g1 ≠ b; exact hxb) _
  · rw [List.nodup_append]
    refine ⟨h.nod, by simp, fun x hx y hy => ?_⟩
    rw [List.mem_singleton] at hy
    subst hy
    have := h.lt x hx
    omega
  · rw [List.mem_append, List.mem_singleton]
    intro hx
    rcases hx with hx | hx
    · exact h.nb hx
    · omega
  · intro x hx
    cases hx
    refine ⟨hgb, ?_⟩
    rw [List.mem_append, List.mem_singleton]
    intro hx
    rcases hx with hx | hx
    · exact hgg hx
    · exact hg1g hx

end Go.Proofs.Ytnjndggdnmboeaa
