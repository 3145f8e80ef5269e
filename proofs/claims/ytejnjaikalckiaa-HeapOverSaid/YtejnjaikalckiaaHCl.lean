/- The contract of slices.Clone on values. -/
import Derived.Test.YtejnjaikalckiaaHLe
import Derived.Lib.SliceRun
namespace Go.Proofs.Ytejnjaikalckiaa
open Go.RowKit

theorem Try.infoSym : (Try.prog.info? 36).map (fun i => (i.zero, i.size, i.bytes)) = some (some (.agg #[.int .i64 0, .int .i64 0, .int .i64 0, .int .i64 0]), 4, 32) := by kernel_rfl
theorem Try.symRow : ∃ i z, RowI Try.prog 38 36 4 32 i z := by
  obtain ⟨i0, hi, hz0, hz1, hz2⟩ := info_parts Try.infoSym
  exact ⟨i0, _, Try.underlying38, hi, hz0, hz1, hz2, rfl, by decide⟩

theorem sy_flat_len (l : List Sy) : (l.map syCells).flatten.length = l.length * 4 := by rw [flatL_len (sy_each l), List.length_map]
theorem SysAt.cells {w : World} {B : Nat} {A : Option Addr} {l : List Sy} (h : SysAt w B A l) : ∀ ad, A = some ad → ∀ j u, (l.map syCells).flatten[j]? = some u → w.cell? (ad.add j) = some u := by
  intro ad hA j u hj
  have hjl : j < (l.map syCells).flatten.length := (List.getElem?_eq_some_iff.1 hj).1
  rw [sy_flat_len] at hjl
  obtain ⟨b, off, e, _, hc⟩ := h (by omega)
  rw [e] at hA
  cases hA
  have hi : j / 4 < l.length := by omega
  obtain ⟨h0, h1, h2, h3⟩ := hc (j / 4) _ (List.getElem?_eq_getElem hi)
  have hg := flatL_get (sy_each l) (j := j / 4) (r := syCells l[j / 4]) (by rw [List.getElem?_map, List.getElem?_eq_getElem hi]; rfl) (j % 4) (Nat.mod_lt _ (by omega))
  rw [show j / 4 * 4 + j % 4 = j by omega, hj] at hg
  rw [Addr.add_mid]
  have key : ∀ q v, j % 4 = q → w.cell? ⟨b, off + j / 4 * 4 + q, none⟩ = some v → (syCells l[j / 4])[q]? = some v → w.cell? ⟨b, off + j, none⟩ = some u := by
    intro q v hq hcq hv
    rw [hq, hv] at hg
    cases hg
    rw [show off + j = off + j / 4 * 4 + q by omega]
    exact hcq
  have : j % 4 < 4 := Nat.mod_lt _ (by omega)
  rcases (show j % 4 = 0 ∨ j % 4 = 1 ∨ j % 4 = 2 ∨ j % 4 = 3 by omega) with h | h | h | h
  · exact key 0 _ h h0 rfl
  · exact key 1 _ h h1 rfl
  · exact key 2 _ h h2 rfl
  · exact key 3 _ h h3 rfl
theorem sy_one (l : List Sy) : ∀ u ∈ (l.map syCells).flatten, u.oneCell' = true := by
  intro u hu
  simp only [List.mem_flatten, List.mem_map] at hu
  obtain ⟨r, ⟨s, _, rfl⟩, hr⟩ := hu
  exact allOne (syCells s) rfl u hr

def ClPost (t : TypeId) (l : List Sy) (w : World) (e : Ending) (w' : World) : Prop :=
  ∃ A' cap', e = .returned (.slice A' l.length cap') ∧ w'.ownsRow 0 t 4 (.slice A' l.length cap') l.length (l.map syCells).flatten ∧ (∀ g, (Value.slice A' l.length cap').ownBlock = some g → w.heap.size ≤ g) ∧ Below w.heap.size w w'

set_option maxRecDepth 100000 in
set_option maxHeartbeats 4000000 in
theorem clone_any {A : Option Addr} {cap : Nat} {l : List Sy} (w : World) (hA : SysAt w w.heap.size A l) (hl : l.length ≤ 1000000) :
    Calls Try.prog 48 #[.slice A l.length cap] w (ClPost 36 l w) := by
  have HA := Lib.hid hA
  have hq := fun (w : World) (A : Option Addr) (n c : Nat) => Lib.run_eql_slice_nil (P := Try.prog) w 38 36 A n c 0 0 Try.underlying38
  cases A with
  | none =>
    have hz : l = [] := by
      rcases Nat.eq_zero_or_pos l.length with h0 | h0
      · exact List.eq_nil_of_length_eq_zero h0
      · obtain ⟨b, off, e, _⟩ := hA h0
        cases e
    subst hz
    clear hA
    go_enter Try.func48, Try.ntmps48
    go_wp2_with fail
    go_ret
    exact ⟨none, 0, rfl, World.ownsRow_nil _ _ _ _, (fun g h => by simp [Value.ownBlock] at h), Below.refl _ _⟩
  | some ad =>
    clear hA
    obtain ⟨i0, z0, I⟩ := Try.symRow
    have ho : (w.alloc (.cells #[] 36)).ownsRow 0 36 4 (.slice (some ⟨w.heap.size, 0, none⟩) 0 0) 0 [] := World.ownsRow_made w #[] 0 (Nat.zero_le _) (Nat.zero_le _) (by simp)
    have hb : Below w.heap.size w (w.alloc (.cells #[] 36)) := (Below.refl _ _).alloc (Nat.le_refl _) _
    have hA2 := (HA.out.below hb (Nat.le_refl _)).cells ad rfl
    go_enter Try.func48, Try.ntmps48
    go_wp2_with (at_builtin; refine stop_ ?_)
    unfold Stop
    refine (wpList_append_hist rfl (.tmp 5) (.tmp 6) rfl I rfl ho rfl (sy_flat_len l) hA2 (sy_one l) (by unfold maxLen; omega) (by omega) ?_)
    intro A' c' w3 ha
    have HB := Lib.hid (hb.grown ha.grown (by simp) (fun k hk => by cases hk; exact Nat.le_refl _))
    have HO := Lib.hid ha.own
    have HK := Lib.hid ha.block
    clear ha ho hb hA2 hq I
    simp only [Nat.zero_add, List.nil_append] at HO HK ⊢
    go_wp2
    go_ret
    refine ⟨A', c', rfl, HO.out, fun g hg => ?_, HB.out⟩
    rcases HK.out with h | h
    · rw [h] at hg; cases hg; exact Nat.le_refl _
    · rw [h] at hg; cases hg; simp

end Go.Proofs.Ytejnjaikalckiaa
