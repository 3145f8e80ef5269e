/- The contracts of mem.Memory's cellOf and lockOf. -/
import Derived.Test.YtnjndggdnmboeaaMLook
namespace Go.Proofs.Ytnjndggdnmboeaa
open Go.RowKit

/- What cellOf comes to. -/
def LPost (gs : List Nat) (W : Int) (p : MV) (w : World) (e : Ending) (w' : World) : Prop :=
  ∃ A, e = .returned (.tuple #[.pointer A, .int .i64 W]) ∧ (W = 0 → ∃ g, gs[at1 p]? = some g ∧ A = some ⟨g, p.n.toNat * 5, none⟩) ∧ Below w.heap.size w w'
theorem LPost.no {gs : List Nat} {W : Int} {p : MV} {w w' : World} {c : Int} (h : W = c) (hc : c ≠ 0) (hb : Below w.heap.size w w') : LPost gs W p w (.returned (.tuple #[.pointer none, .int .i64 c])) w' :=
  ⟨none, by rw [h], fun h0 => absurd (h.symm.trans h0) hc, hb⟩
theorem LPost.yes {gs : List Nat} {W : Int} {p : MV} {w w' : World} {g j : Nat} (h : W = 0) (hg : gs[at1 p]? = some g) (hj : p.n.toNat = j) (hb : Below w.heap.size w w') : LPost gs W p w (.returned (.tuple #[.pointer (some ⟨g, j * 5, none⟩), .int .i64 0])) w' :=
  ⟨_, by rw [h], fun _ => ⟨g, hg, by rw [hj]⟩, hb⟩

theorem whyC_B {s : MS} {p : MV} {c : Int} (h : whyB s p = c) (hc : c ≠ 0) : whyC s p = c := by unfold whyC; rw [if_pos (by rw [h]; exact hc), h]
theorem whyC_low {s : MS} {p : MV} (h : whyB s p = 0) (hn : p.n < 0) : whyC s p = 3 := by unfold whyC; rw [if_neg (by omega), if_pos (.inl hn)]
theorem whyC_high {s : MS} {p : MV} (h : whyB s p = 0) (hn : ((bkOf s p).cells.length : Int) ≤ p.n) : whyC s p = 3 := by unfold whyC; rw [if_neg (by omega), if_pos (.inr hn)]
theorem whyC_in {s : MS} {p : MV} (h : whyB s p = 0) (h0 : ¬ p.n < 0) (h1 : ¬ ((bkOf s p).cells.length : Int) ≤ p.n) : whyC s p = 0 := by unfold whyC; rw [if_neg (by omega), if_neg (by omega)]

set_option maxRecDepth 100000 in
set_option maxHeartbeats 4000000 in
theorem cellOf_any {w : World} {b : Nat} {v : Value} {gs : List Nat} {s : MS} (h : MemIs w b v gs s) (p : MV) :
    Calls Try.prog 26 #[.pointer (some ⟨b, 0, none⟩), .agg #[.int .i64 p.kind, .int .i64 p.n, .int .i64 p.block]] w (LPost gs (whyC s p) p w) := by
  have H := Lib.hid (h.below ((Below.refl w.heap.size w).alloc (Nat.le_refl _) (.cells #[.int .i64 p.kind, .int .i64 p.n, .int .i64 p.block] 34)))
  clear h
  go_enter Try.func26, Try.ntmps26
  go_wp2_with fail
  ((with_reducible refine (blockOf_any H.out p).mono ?_); rintro e w1 ⟨A, rfl, hA, hb1⟩)
  have HA := Lib.hid hA
  have HB1 := Lib.hid hb1
  have hbelow := Lib.hid (((Below.refl w.heap.size w).alloc (Nat.le_refl _) (.cells #[.int .i64 p.kind, .int .i64 p.n, .int .i64 p.block] 34)).trans (hb1.mono (by simp)))
  have H1 := Lib.hid (H.out.below hb1)
  have hz1 := hb1.size
  rw [World.size_alloc] at hz1
  have y1 : w1.cell? ⟨w.heap.size, 1, none⟩ = some (.int .i64 p.n) := by
    rw [(bcell hb1).1 w.heap.size 1 (by simp)]
    exact (Blk.new w [.int .i64 p.kind, .int .i64 p.n, .int .i64 p.block] _).cell 1
  clear hA hb1
  by_cases h0 : whyB s p = 0
  · obtain ⟨gv, cap, rfl, rfl⟩ := HA.out h0
    obtain ⟨hk, k, hkb, hk1, hks, hbk, hlive⟩ := whyB_ok h0
    obtain ⟨gv', cap', g, a, hv, hg, ha, _, c1, hal, hB, hgl, _⟩ := H1.out.block hks
    simp only [Value.slice.injEq, Option.some.injEq, Addr.mk.injEq, and_true, true_and] at hv
    obtain ⟨rfl, rfl⟩ := hv
    obtain rfl : a = bkOf s p := Option.some.inj (ha.symm.trans hbk)
    rw [hk1]
    have H0 := Lib.hid h0
    have HG : Hid (gs[at1 p]? = some g) := Lib.hid (by rw [hk1]; exact hg)
    rw [h0]
    have hn0 : ((p.n.toNat : Nat) : Int) = p.n ∨ p.n < 0 := by omega
    by_cases h1 : p.n < 0
    · have hd1 : decide (p.n < 0) = true := by simpa using h1
      have HR := Lib.hid (whyC_low h0 h1)
      clear h0 hk hkb hk1 hbk hlive ha hB hg
      go_wp2
      go_quiet (fail)
      go_wp2
      go_ret2
      exact LPost.no HR.out (by decide) (below_drewN hbelow.out _)
    · by_cases h2 : ((bkOf s p).cells.length : Int) ≤ p.n
      · have hd1 : decide (p.n < 0) = false := by simpa using h1
        have hd2 : decide (((bkOf s p).cells.length : Int) ≤ p.n) = true := by simpa using h2
        have HR := Lib.hid (whyC_high h0 h2)
        clear h0 hk hkb hk1 hbk hlive ha hB hg
        generalize (bkOf s p).cells.length = L at *
        go_wp2
        go_quiet (fail)
        go_wp2
        go_ret2
        exact LPost.no HR.out (by decide) (below_drewN hbelow.out _)
      · have HR := Lib.hid (whyC_in h0 h1 h2)
        obtain ⟨kind, n, block⟩ := p
        simp only at h1 h2 y1 hn0
        obtain ⟨j, rfl⟩ : ∃ j : Nat, n = (j : Int) := ⟨n.toNat, by omega⟩
        have hd1 : decide ((j : Int) < 0) = false := by simp
        have hj : j < (bkOf s ⟨kind, (j : Int), block⟩).cells.length := by omega
        have hd2 : decide (((bkOf s ⟨kind, (j : Int), block⟩).cells.length : Int) ≤ (j : Int)) = false := by simpa using h2
        have hd3 : decide ((bkOf s ⟨kind, (j : Int), block⟩).cells.length ≤ j) = false := by simpa using hj
        clear h0 hk hkb hk1 hbk hlive ha hB hg h1 h2 hn0
        generalize (bkOf s ⟨kind, (j : Int), block⟩).cells.length = L at *
        have hj2 : (j : Int) < (L : Int) := by omega
        go_wp2
        go_quiet (fail)
        go_wp2
        go_quiet (fail)
        go_wp2
        go_ret2
        exact LPost.yes HR.out HG.out (by simp) (below_drewN (below_drewN hbelow.out _) _)
  · have hd : (whyB s p != 0) = true := by simpa using h0
    have HR := Lib.hid (whyC_B rfl h0)
    have H0 := Lib.hid h0
    clear h0
    generalize whyB s p = c at *
    go_wp2
    go_ret2
    exact LPost.no HR.out H0.out hbelow.out

theorem MemIs.cellRow {w : World} {b : Nat} {v : Value} {gs : List Nat} {s : MS} (h : MemIs w b v gs s) {p : MV} (hp : whyC s p = 0) {g : Nat} (hg : gs[at1 p]? = some g) :
    Blk w g (cRow (bkOf s p).cells) 82 ∧ (bkOf s p).cells[p.n.toNat]? = some (clOf s p) := by
  obtain ⟨hB, j, hj, hlt, hcj⟩ := whyC_ok hp
  obtain ⟨_, k, hk, hk1, hks, hbk, _⟩ := whyB_ok hB
  rw [hk1] at hg
  exact ⟨h.cells k _ g hbk hg, by rw [show p.n.toNat = j by omega]; exact hcj⟩

theorem lockW_C {s : MS} {p : MV} {c : Int} (h : whyC s p = c) (hc : c ≠ 0) : lockW s p = c := by unfold lockW; rw [if_pos (by rw [h]; exact hc), h]
theorem lockW_busy {s : MS} {p : MV} (h : whyC s p = 0) (hb : busyC (clOf s p) = true) : lockW s p = 6 := by unfold lockW; rw [if_neg (by omega), if_pos hb]
theorem lockW_empty {s : MS} {p : MV} (h : whyC s p = 0) (hb : busyC (clOf s p) = false) (hk : (clOf s p).v.kind = 0) : lockW s p = 4 := by unfold lockW; rw [if_neg (by omega), if_neg (by simp [hb]), if_pos hk]
theorem lockW_type {s : MS} {p : MV} (h : whyC s p = 0) (hb : busyC (clOf s p) = false) (hk : (clOf s p).v.kind ≠ 0) (hk1 : (clOf s p).v.kind ≠ 1) : lockW s p = 1 := by unfold lockW; rw [if_neg (by omega), if_neg (by simp [hb]), if_neg hk, if_pos hk1]
theorem lockW_fine {s : MS} {p : MV} (h : whyC s p = 0) (hb : busyC (clOf s p) = false) (hk1 : (clOf s p).v.kind = 1) : lockW s p = 0 := by unfold lockW; rw [if_neg (by omega), if_neg (by simp [hb]), if_neg (by omega), if_neg (by omega)]

set_option maxRecDepth 100000 in
set_option maxHeartbeats 4000000 in
theorem lockOf_any {w : World} {b : Nat} {v : Value} {gs : List Nat} {s : MS} (h : MemIs w b v gs s) (p : MV) :
    Calls Try.prog 29 #[.pointer (some ⟨b, 0, none⟩), .agg #[.int .i64 p.kind, .int .i64 p.n, .int .i64 p.block]] w (LPost gs (lockW s p) p w) := by
  have H := Lib.hid (h.below ((Below.refl w.heap.size w).alloc (Nat.le_refl _) (.cells #[.int .i64 p.kind, .int .i64 p.n, .int .i64 p.block] 34)))
  clear h
  go_enter Try.func29, Try.ntmps29
  go_wp2_with fail
  ((with_reducible refine (cellOf_any H.out p).mono ?_); rintro e w1 ⟨A, rfl, hA, hb1⟩)
  have HA := Lib.hid hA
  have hbelow := Lib.hid (((Below.refl w.heap.size w).alloc (Nat.le_refl _) (.cells #[.int .i64 p.kind, .int .i64 p.n, .int .i64 p.block] 34)).trans (hb1.mono (by simp)))
  have H1 := Lib.hid (H.out.below hb1)
  clear hA hb1
  by_cases h0 : whyC s p = 0
  · obtain ⟨g, hg, rfl⟩ := HA.out h0
    obtain ⟨hB, hc⟩ := H1.out.cellRow h0 hg
    obtain ⟨f0, f1, f2, f3, f4⟩ := cell_facts hB hc
    have HB := Lib.hid hB
    have HG := Lib.hid hg
    have H0 := Lib.hid h0
    have hlt := hB.lt
    rw [h0]
    clear hB hc hg h0
    go_wp2_with fail
    ((with_reducible refine (busy_any (clOf s p) _).mono ?_); rintro e w2 ⟨rfl, hb2⟩)
    have hbelow2 := Lib.hid (hbelow.out.trans (hb2.mono hbelow.out.size))
    have y0 := (bcell hb2).1 g (p.n.toNat * 5) hlt
    rw [f0] at y0
    clear hb2 f0 f1 f2 f3 f4
    cases hz : busyC (clOf s p)
    · have HZ := Lib.hid hz
      clear hz
      by_cases hk0 : (clOf s p).v.kind = 0
      · have HR := Lib.hid (lockW_empty H0.out HZ.out hk0)
        rw [hk0] at y0
        clear hk0
        go_wp2
        go_ret2
        exact LPost.no HR.out (by decide) hbelow2.out
      · by_cases hk1 : (clOf s p).v.kind = 1
        · have HR := Lib.hid (lockW_fine H0.out HZ.out hk1)
          rw [hk1] at y0
          clear hk0 hk1
          go_wp2
          go_ret2
          exact LPost.yes HR.out HG.out rfl hbelow2.out
        · have HR := Lib.hid (lockW_type H0.out HZ.out hk0 hk1)
          have hd0 : ((clOf s p).v.kind == 0) = false := by simpa using hk0
          have hd1 : ((clOf s p).v.kind != 1) = true := by simpa using hk1
          clear hk0 hk1
          go_wp2
          go_ret2
          exact LPost.no HR.out (by decide) hbelow2.out
    · have HR := Lib.hid (lockW_busy H0.out hz)
      clear hz
      go_wp2
      go_ret2
      exact LPost.no HR.out (by decide) hbelow2.out
  · have hd : (whyC s p != 0) = true := by simpa using h0
    have HR := Lib.hid (lockW_C rfl h0)
    have H0 := Lib.hid h0
    clear h0
    generalize whyC s p = c at *
    go_wp2
    go_ret2
    exact LPost.no HR.out H0.out hbelow.out

end Go.Proofs.Ytnjndggdnmboeaa
