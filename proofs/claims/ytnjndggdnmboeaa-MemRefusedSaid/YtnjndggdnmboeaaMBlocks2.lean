/- The contract of mem.Memory's Blocks: the walk. -/
import Derived.Test.YtnjndggdnmboeaaMBlocks
namespace Go.Proofs.Ytnjndggdnmboeaa
open Go.RowKit

set_option maxRecDepth 100000 in
set_option maxHeartbeats 4000000 in
theorem blocks_any {w : World} {b : Nat} {s : MS} {O : Nat → Prop} (h0 : MemAt w b s O) : Calls Try.prog 10 #[.pointer (some ⟨b, 0, none⟩)] w (BlocksPost w s) := by
  obtain ⟨v, gs, h, _⟩ := h0.open
  clear h0
  obtain ⟨A, cap, hv, f0, _, hc1, hc2, hle, hlt⟩ := h.facts
  have HV := Lib.hid hv
  have H := Lib.hid h
  have hmk := run_make_told s.length (by omega)
  clear hv h
  go_enter Try.func10, Try.ntmps10
  go_wp2
  clear hmk
  go_loopw [19] (fun i wr => ∃ k : Nat, k ≤ s.length ∧ i = .int .i64 k ∧ BlkRel w s w.heap.size k wr) (fun i _ => s.length - (intOf i).toNat)
  case atStart => exact ⟨0, by omega, rfl, [], rfl, Blk.new w (zRow s.length) _, (fun i b q _ h2 => by simp at h2), (Below.refl _ _).alloc (Nat.le_refl _) _⟩
  case round =>
    obtain ⟨k, hk, rfl, qs, hql, hrow, hT, hb⟩ := hrel
    by_cases hks : k < s.length
    · obtain ⟨gv, cap', g, a, hv, hg, ha, c0, c1, hal, hB, hgl, _⟩ := (H.out.below hb).block hks
      have ev := HV.out.symm.trans hv
      simp only [Value.slice.injEq, true_and] at ev
      obtain ⟨rfl, rfl⟩ := ev
      have HBo := Lib.hid (hB.alloc (.cells #[.bool a.live, .slice (some ⟨g, 0, none⟩) a.cells.length a.cells.length] 75))
      have HRow := Lib.hid hrow
      have HT := Lib.hid hT
      have HBl := Lib.hid hb
      have HQ := Lib.hid hql
      have HA := Lib.hid ha
      have hsz := hrow.lt
      have hk1 : (k : Int) < (s.length : Int) := by omega
      clear hv hg ha hB hrow hT hb hql
      go_wp2_with fail
      ((with_reducible refine (told_any HBo.out hal).mono ?_); rintro e w1 ⟨gc, gr, gw, rfl, hS⟩)
      have HS := Lib.hid hS
      have hbel := Lib.hid (((Below.refl wr.heap.size wr).alloc (Nat.le_refl _) (.cells #[.bool a.live, .slice (some ⟨g, 0, none⟩) a.cells.length a.cells.length] 75)).trans (hS.below.mono (by simp)))
      have hrow1 := HRow.out.below hbel.out hsz
      have HR1 := Lib.hid hrow1
      have hlen : (tRow (s.take k) qs).length = k * 4 := by rw [tRow_len (by rw [HQ.out]; simp; omega)]; simp; omega
      have y0 := hrow1.cell (k * 4 + 0)
      have y1 := hrow1.cell (k * 4 + 1)
      have y2 := hrow1.cell (k * 4 + 2)
      have y3 := hrow1.cell (k * 4 + 3)
      rw [show s.length - k = (s.length - (k + 1)) + 1 by omega, zRow_succ] at y0 y1 y2 y3
      rw [z_at _ _ k hlen 0 (by omega)] at y0
      rw [z_at _ _ k hlen 1 (by omega)] at y1
      rw [z_at _ _ k hlen 2 (by omega)] at y2
      rw [z_at _ _ k hlen 3 (by omega)] at y3
      simp only [zCells, List.getElem?_cons_zero, List.getElem?_cons_succ, Nat.add_zero] at y0 y1 y2 y3
      have q0 := hrow1.frozen (k * 4)
      have q1 := hrow1.frozen (k * 4 + 1)
      have q2 := hrow1.frozen (k * 4 + 2)
      have q3 := hrow1.frozen (k * 4 + 3)
      have hsz1 := hrow1.lt
      clear hS hrow1 hlen c0 c1
      go_wp2
      go_roundw
      case rel => exact ⟨k + 1, by omega, by go_num, BlkRel.step (q := ⟨gc, gr, gw⟩) rfl HA.out HQ.out HR1.out HT.out HBl.out hbel.out (told_new HS.out (by simp; omega))⟩
      case measure => simp [intOf]; omega
    · obtain rfl : k = s.length := by omega
      have HR := Lib.hid (blocks_done hql hrow hT hb)
      clear hrow hT hb hql
      go_wp2
      go_ret
      exact ⟨_, qs, rfl, HR.out.1, HR.out.2⟩

end Go.Proofs.Ytnjndggdnmboeaa
