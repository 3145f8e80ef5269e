/- The contracts of lychgateref06.Plain and End. -/
import Derived.Test.YtnjndggdnmboeaaMRefOps2
import Derived.Deep.RegionHeld3
namespace Go.Proofs.Ytnjndggdnmboeaa
open Go.RowKit

theorem offS_set (s : MS) (k : Nat) (a : MB) : offS (s.set k a) k = offS s k := by
  induction s generalizing k with
  | nil => cases k <;> simp [offS]
  | cons b s ih =>
    cases k with
    | zero => simp [offS]
    | succ k => simp [offS, ih]
theorem upd_facts {s : MS} {p : MV} (h : whyC s p = 0) (c : MC) : whyC (upd s p c) p = 0 ∧ clOf (upd s p c) p = c ∧ placeR (upd s p c) p = placeR s p ∧ ∀ d, upd (upd s p c) p d = upd s p d := by
  obtain ⟨hB, j, hj, hlt, hcj⟩ := whyC_ok h
  obtain ⟨hk2, k, hk, hk1, hks, hbk, hlive⟩ := whyB_ok hB
  have ej : p.n.toNat = j := by omega
  have hb : bkOf (upd s p c) p = ⟨(bkOf s p).live, (bkOf s p).cells.set p.n.toNat c⟩ := by
    refine bkOf_get ?_
    unfold upd
    rw [hk1, List.getElem?_set_self hks]
  have hB2 : whyB (upd s p c) p = 0 := by
    unfold whyB
    rw [if_neg (by omega), if_neg]
    rw [upd_len, hb]
    simp only [hlive, not_or]
    exact ⟨by omega, by omega, by simp⟩
  refine ⟨?_, ?_, ?_, fun d => ?_⟩
  · unfold whyC
    rw [if_neg (by omega), if_neg]
    rw [hb]
    simp only [List.length_set]
    omega
  · unfold clOf
    rw [hb]
    simp only
    rw [List.getD_eq_getElem?_getD, List.getElem?_set_self (by omega)]
    rfl
  · unfold placeR
    have : offS (upd s p c) (at1 p) = offS s (at1 p) := offS_set s (at1 p) _
    rw [this]
  · unfold Go.Proofs.Ytnjndggdnmboeaa.upd at hb ⊢
    rw [hb]
    simp only [List.set_set]
theorem RefIs.put2 {w : World} {b g cap : Nat} {vl vs : Value} {s : MS} {p : MV} {c0 : MC} (h : RefIs w b vl vs (.slice (some ⟨g, 0, none⟩) (rcs 0 s).length cap) (upd s p c0)) (hp : whyC s p = 0) (i : Nat) (hi : i < 7) (u : Value) (c : MC) (hc : (rCells ⟨at1 p + 1, p.n.toNat, c0⟩).set i u = rCells ⟨at1 p + 1, p.n.toNat, c⟩) :
    RefIs (w.setCell ⟨g, placeR s p * 7 + i, none⟩ u) b vl vs (.slice (some ⟨g, 0, none⟩) (rcs 0 s).length cap) (upd s p c) := by
  obtain ⟨h1, h2, h3, h4⟩ := upd_facts hp c0
  rw [← rcs_upd_len hp c0] at h ⊢
  have := h.put h1 i hi u c (by rw [h2]; exact hc)
  rw [h3, h4] at this
  exact this
theorem RefIs.put3 {w : World} {b g cap : Nat} {vl vs : Value} {s : MS} {p : MV} {c0 : MC} (h : RefIs w b vl vs (.slice (some ⟨g, 0, none⟩) (rcs 0 s).length cap) (upd s p c0)) (hp : whyC s p = 0) (v : MV) :
    RefIs (((w.setCell ⟨g, placeR s p * 7 + 2, none⟩ (.int .i64 v.kind)).setCell ⟨g, placeR s p * 7 + 3, none⟩ (.int .i64 v.n)).setCell ⟨g, placeR s p * 7 + 4, none⟩ (.int .i64 v.block)) b vl vs (.slice (some ⟨g, 0, none⟩) (rcs 0 s).length cap) (upd s p ⟨v, c0.r, c0.w⟩) :=
  ((h.put2 hp 2 (by omega) (.int .i64 v.kind) ⟨⟨v.kind, c0.v.n, c0.v.block⟩, c0.r, c0.w⟩ rfl).put2 hp 3 (by omega) (.int .i64 v.n) ⟨⟨v.kind, v.n, c0.v.block⟩, c0.r, c0.w⟩ rfl).put2 hp 4 (by omega) (.int .i64 v.block) ⟨⟨v.kind, v.n, v.block⟩, c0.r, c0.w⟩ rfl

set_option maxHeartbeats 1000000 in
theorem plain_any (v : MV) (w : World) : Calls Try.prog 37 #[.agg #[.int .i64 v.kind, .int .i64 v.n, .int .i64 v.block]] w fun e w' => e = .returned (vV (needV v)) ∧ Below w.heap.size w w' := by
  obtain ⟨k, n, b⟩ := v
  unfold needV vV
  simp only
  by_cases h1 : k = 1
  · subst h1
    go_enter Try.func37, Try.ntmps37
    go_wp2
    exact bodyPost_ret (v := .agg #[.int .i64 1, .int .i64 n, .int .i64 0]) (by simp [results, Try.results37, go_sem]) rfl ⟨by simp, by go_grown⟩
  · have d1 : (k == 1) = false := by simpa using h1
    by_cases h2 : k = 2
    · subst h2
      go_enter Try.func37, Try.ntmps37
      go_wp2
      exact bodyPost_ret (v := .agg #[.int .i64 2, .int .i64 n, .int .i64 b]) (by simp [results, Try.results37, go_sem]) rfl ⟨by simp, by go_grown⟩
    · have d2 : (k == 2) = false := by simpa using h2
      rw [if_neg h1, if_neg h2]
      clear h1 h2
      go_enter Try.func37, Try.ntmps37
      go_wp2
      exact bodyPost_ret (v := .agg #[.int .i64 0, .int .i64 0, .int .i64 0]) (by simp [results, Try.results37, go_sem]) rfl ⟨by simp [v0], by go_grown⟩

end Go.Proofs.Ytnjndggdnmboeaa
