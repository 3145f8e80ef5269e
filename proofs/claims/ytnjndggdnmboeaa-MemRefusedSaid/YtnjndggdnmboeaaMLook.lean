/- The contracts of mem.Memory's blockOf and cellOf. -/
import Derived.Test.YtnjndggdnmboeaaMCell2
namespace Go.Proofs.Ytnjndggdnmboeaa
open Go.RowKit

/- What blockOf comes to. -/
def BPost (v : Value) (s : MS) (p : MV) (w : World) (e : Ending) (w' : World) : Prop :=
  ∃ A, e = .returned (.tuple #[.pointer A, .int .i64 (whyB s p)]) ∧ (whyB s p = 0 → ∃ gv cap, v = .slice (some ⟨gv, 0, none⟩) s.length cap ∧ A = some ⟨gv, at1 p * 2, none⟩) ∧ Below w.heap.size w w'

theorem BPost.no {v : Value} {s : MS} {p : MV} {w w' : World} {c : Int} (h : whyB s p = c) (hc : c ≠ 0) (hb : Below w.heap.size w w') : BPost v s p w (.returned (.tuple #[.pointer none, .int .i64 c])) w' :=
  ⟨none, by rw [h], fun h0 => absurd (h.symm.trans h0) hc, hb⟩
theorem BPost.yes {v : Value} {s : MS} {p : MV} {w w' : World} {gv cap k : Nat} (h : whyB s p = 0) (hv : v = .slice (some ⟨gv, 0, none⟩) s.length cap) (hk : at1 p = k) (hb : Below w.heap.size w w') :
    BPost v s p w (.returned (.tuple #[.pointer (some ⟨gv, k * 2, none⟩), .int .i64 0])) w' :=
  ⟨some ⟨gv, k * 2, none⟩, by rw [h], fun _ => ⟨gv, cap, hv, by rw [hk]⟩, hb⟩
theorem whyB_kind {s : MS} {p : MV} (h : p.kind ≠ 2) : whyB s p = 1 := by unfold whyB; rw [if_pos h]
theorem whyB_low {s : MS} {p : MV} (h : p.kind = 2) (hb : p.block < 1) : whyB s p = 2 := by unfold whyB; rw [if_neg (by simpa using h), if_pos (.inl hb)]
theorem whyB_high {s : MS} {p : MV} (h : p.kind = 2) (hb : (s.length : Int) < p.block) : whyB s p = 2 := by unfold whyB; rw [if_neg (by simpa using h), if_pos (.inr (.inl hb))]
theorem whyB_dead {s : MS} {p : MV} (h : p.kind = 2) (hb : (bkOf s p).live = false) : whyB s p = 2 := by unfold whyB; rw [if_neg (by simpa using h), if_pos (.inr (.inr hb))]
theorem whyB_live {s : MS} {p : MV} (h : p.kind = 2) (h1 : ¬ p.block < 1) (h2 : ¬ (s.length : Int) < p.block) (hb : (bkOf s p).live = true) : whyB s p = 0 := by
  unfold whyB
  rw [if_neg (by simpa using h), if_neg]
  simp [h1, h2, hb]

theorem MemIs.facts {w : World} {b : Nat} {v : Value} {gs : List Nat} {s : MS} (h : MemIs w b v gs s) : ∃ A cap, v = .slice A s.length cap ∧ w.cell? ⟨b, 0, none⟩ = some (.slice A s.length cap) ∧ w.cell? ⟨b, 1, none⟩ = some (.int .i64 (usedS s)) ∧ s.length ≤ cap ∧ cap ≤ maxLen ∧ s.length ≤ 4096 ∧ b < w.heap.size := by
  obtain ⟨A, cap, hv, h1, h2⟩ := row_form h.row
  have := usedS_len s
  have := h.most
  exact ⟨A, cap, hv, by rw [h.blk.cell 0, hv]; rfl, by rw [h.blk.cell 1]; rfl, h1, h2, by omega, h.blk.lt⟩

/- What is known of a block that is there. -/
theorem MemIs.block {w : World} {b : Nat} {v : Value} {gs : List Nat} {s : MS} (h : MemIs w b v gs s) {k : Nat} (hk : k < s.length) :
    ∃ gv cap g a, v = .slice (some ⟨gv, 0, none⟩) s.length cap ∧ gs[k]? = some g ∧ s[k]? = some a ∧ w.cell? ⟨gv, k * 2, none⟩ = some (.bool a.live) ∧ w.cell? ⟨gv, k * 2 + 1, none⟩ = some (.slice (some ⟨g, 0, none⟩) a.cells.length a.cells.length) ∧ a.cells.length ≤ 4096 ∧
      Blk w g (cRow a.cells) 82 ∧ gv < w.heap.size ∧ (∀ o, w.frozen? ⟨gv, o, none⟩ = false) := by
  obtain ⟨gv, cap, rfl, h1, h2⟩ := row_pos h.row (by omega)
  have hs : s[k]? = some s[k] := List.getElem?_eq_getElem hk
  have hg : gs[k]? = some (gs[k]'(by rw [h.len]; exact hk)) := List.getElem?_eq_getElem _
  have hm := usedS_block s s[k] (List.getElem_mem hk)
  have := h.most
  refine ⟨gv, cap, _, _, rfl, hg, hs, ?_, ?_, by omega, h.cells k _ _ hs hg, row_lt h.row rfl, fun o => h.row.frozenAt o⟩
  · have h0 := h.row.cellAt (k * 2 + 0) (by omega)
    rw [bRow_get hs hg 0 (by omega)] at h0
    exact h0
  · rw [h.row.cellAt (k * 2 + 1) (by omega), bRow_get hs hg 1 (by omega)]
    rfl

set_option maxRecDepth 100000 in
set_option maxHeartbeats 4000000 in
theorem blockOf_any {w : World} {b : Nat} {v : Value} {gs : List Nat} {s : MS} (h : MemIs w b v gs s) (p : MV) :
    Calls Try.prog 30 #[.pointer (some ⟨b, 0, none⟩), .agg #[.int .i64 p.kind, .int .i64 p.n, .int .i64 p.block]] w (BPost v s p w) := by
  obtain ⟨A, cap, hv, f0, _, hc1, hc2, hle, hlt⟩ := h.facts
  have HV := Lib.hid hv
  clear hv
  by_cases hk : p.kind = 2
  · have hd0 : (p.kind != 2) = false := by simpa using hk
    by_cases h1 : p.block < 1
    · have hd1 : decide (p.block < 1) = true := by simpa using h1
      have HR := Lib.hid (whyB_low (s := s) hk h1)
      have HK := Lib.hid hk
      clear hk
      go_enter Try.func30, Try.ntmps30
      go_wp2
      go_quiet (fail)
      go_wp2
      go_ret2
      exact BPost.no HR.out (by decide) (below_drewN ((Below.refl _ _).alloc (Nat.le_refl _) _) _)
    · have hd1 : decide (p.block < 1) = false := by simpa using h1
      by_cases h2 : (s.length : Int) < p.block
      · have hd2 : decide ((s.length : Int) < p.block) = true := by simpa using h2
        have HR := Lib.hid (whyB_high (s := s) hk h2)
        have HK := Lib.hid hk
        clear hk
        go_enter Try.func30, Try.ntmps30
        go_wp2
        go_quiet (fail)
        go_wp2
        go_ret2
        exact BPost.no HR.out (by decide) (below_drewN ((Below.refl _ _).alloc (Nat.le_refl _) _) _)
      · have hd2 : decide ((s.length : Int) < p.block) = false := by simpa using h2
        obtain ⟨kind, n, block⟩ := p
        simp only at hk h1 h2 hd0 hd1 hd2
        obtain ⟨k, rfl⟩ : ∃ k : Nat, block = (k : Int) + 1 := ⟨(block - 1).toNat, by omega⟩
        have hks : k < s.length := by omega
        obtain ⟨gv, cap', g, a, hv, hg, ha, c0, c1, hal, hB, hgl, _⟩ := h.block hks
        have e1 : at1 ⟨kind, n, (k : Int) + 1⟩ = k := by simp [at1]
        have e2 : bkOf s ⟨kind, n, (k : Int) + 1⟩ = a := bkOf_get (by rw [e1]; exact ha)
        have HE1 := Lib.hid e1
        have HV2 := Lib.hid hv
        have ev := HV.out.symm.trans hv
        simp only [Value.slice.injEq, true_and] at ev
        obtain ⟨rfl, rfl⟩ := ev
        have w1 : IntKind.i64.wrap ((k : Int) + 1 - 1) = (k : Int) := by rw [show (k : Int) + 1 - 1 = k by omega]; exact IntWalk.i64_in _ (by omega)
        have w2 : (k : Int) + 1 - 1 = (k : Int) := by omega
        have hi : (k : Int) < (s.length : Int) := by omega
        cases hl : a.live
        · have HR := Lib.hid (whyB_dead (s := s) (p := ⟨kind, n, (k : Int) + 1⟩) hk (by rw [e2]; exact hl))
          rw [hl] at c0
          clear e1 e2 hl ha hg hB HV hv
          have HK := Lib.hid hk
          clear hk
          go_enter Try.func30, Try.ntmps30
          go_wp2
          go_quiet (fail)
          go_wp2
          go_ret2
          exact BPost.no HR.out (by decide) (below_drewN ((Below.refl _ _).alloc (Nat.le_refl _) _) _)
        · have HR := Lib.hid (whyB_live (s := s) (p := ⟨kind, n, (k : Int) + 1⟩) hk h1 h2 (by rw [e2]; exact hl))
          rw [hl] at c0
          clear e1 e2 hl ha hg hB HV hv
          have HK := Lib.hid hk
          clear hk
          go_enter Try.func30, Try.ntmps30
          go_wp2
          go_quiet (fail)
          go_wp2
          go_quiet (fail)
          go_wp2
          go_ret2
          exact BPost.yes HR.out HV2.out HE1.out (below_drewN (below_drewN ((Below.refl _ _).alloc (Nat.le_refl _) _) _) _)
  · have hd0 : (p.kind != 2) = true := by simpa using hk
    have HR := Lib.hid (whyB_kind (s := s) hk)
    clear hk
    go_enter Try.func30, Try.ntmps30
    go_wp2
    go_ret2
    exact BPost.no HR.out (by decide) ((Below.refl _ _).alloc (Nat.le_refl _) _)

end Go.Proofs.Ytnjndggdnmboeaa
