/- The contracts of lychgateref06.whole, Begin, Lock and Unlock. -/
import Derived.Test.YtnjndggdnmboeaaMFind
import Derived.Test.YtnjndggdnmboeaaMOps3
namespace Go.Proofs.Ytnjndggdnmboeaa
open Go.RowKit

theorem RefIs.at {w : World} {b : Nat} {vl vs vc : Value} {s : MS} (h : RefIs w b vl vs vc s) {p : MV} (hp : whyC s p = 0) : ∃ g cap, vc = .slice (some ⟨g, 0, none⟩) (rcs 0 s).length cap ∧ w.cell? ⟨b, 2, none⟩ = some (.slice (some ⟨g, 0, none⟩) (rcs 0 s).length cap) ∧
    (placeR s p : Int) < ((rcs 0 s).length : Int) ∧ (rcs 0 s).length ≤ 4096 ∧ g < w.heap.size ∧ b < w.heap.size ∧ (∀ o, w.frozen? ⟨g, o, none⟩ = false) ∧
    w.cell? ⟨g, placeR s p * 7 + 2, none⟩ = some (.int .i64 (clOf s p).v.kind) ∧ w.cell? ⟨g, placeR s p * 7 + 3, none⟩ = some (.int .i64 (clOf s p).v.n) ∧ w.cell? ⟨g, placeR s p * 7 + 4, none⟩ = some (.int .i64 (clOf s p).v.block) ∧
    w.cell? ⟨g, placeR s p * 7 + 5, none⟩ = some (.int .i64 (clOf s p).r) ∧ w.cell? ⟨g, placeR s p * 7 + 6, none⟩ = some (.bool (clOf s p).w) := by
  obtain ⟨h1, _, _⟩ := rcs_hit hp
  obtain ⟨g, cap, rfl, hgl, hfz, hc⟩ := h.cellAt h1
  have hlt := (List.getElem?_eq_some_iff.1 h1).1
  obtain ⟨_, _, _, _, Ac, cc, _, _, hv, _, _, f2, _, _, _, _, _, _, _, _, hle, hb⟩ := h.facts
  cases hv
  exact ⟨g, cap, rfl, f2, by omega, hle, hgl, hb, hfz, hc 2 (by omega), hc 3 (by omega), hc 4 (by omega), hc 5 (by omega), hc 6 (by omega)⟩

set_option maxRecDepth 100000 in
set_option maxHeartbeats 4000000 in
theorem whole_any {w : World} {b : Nat} {vl vs vc : Value} {s : MS} (h : RefIs w b vl vs vc s) (p : MV) :
    Calls Try.prog 38 #[.pointer (some ⟨b, 0, none⟩), .agg #[.int .i64 p.kind, .int .i64 p.n, .int .i64 p.block]] w (FPost (lockW s p) s p w) := by
  have H := Lib.hid (h.below ((Below.refl w.heap.size w).alloc (Nat.le_refl _) (.cells #[.int .i64 p.kind, .int .i64 p.n, .int .i64 p.block] 61)))
  clear h
  go_enter Try.func38, Try.ntmps38
  go_wp2_with fail
  ((with_reducible refine (find_any H.out p).mono ?_); rintro e w1 ⟨i, rfl, hi, hb1⟩)
  have hbelow := Lib.hid (((Below.refl w.heap.size w).alloc (Nat.le_refl _) (.cells #[.int .i64 p.kind, .int .i64 p.n, .int .i64 p.block] 61)).trans (hb1.mono (by simp)))
  have H1 := Lib.hid (H.out.below hb1)
  have HI := Lib.hid hi
  clear hb1 hi
  by_cases h0 : whyC s p = 0
  · obtain rfl := HI.out h0
    obtain ⟨g, cap, hvc, f2, hpl, hle, hgl, hbl, _, c2, c3, c4, c5, c6⟩ := H1.out.at h0
    have HV := Lib.hid hvc
    have H0 := Lib.hid h0
    have HL2 := Lib.hid (fun hb => lockW_busy h0 hb)
    have HL3 := Lib.hid (fun hb hk => lockW_empty h0 hb hk)
    have HL4 := Lib.hid (fun hb hk hk1 => lockW_type h0 hb hk hk1)
    have HL5 := Lib.hid (fun hb hk1 => lockW_fine h0 hb hk1)
    rw [h0]
    have hpl0 : (0 : Int) ≤ (placeR s p : Int) := by omega
    have HPL : Hid (placeR s p = placeR s p) := Lib.hid rfl
    clear h0 hvc c3 c4
    obtain ⟨P, hP⟩ : ∃ P, P = placeR s p := ⟨_, rfl⟩
    rw [← hP] at hpl hpl0 c2 c5 c6 ⊢
    have HP := Lib.hid hP
    clear hP HPL
    obtain ⟨L, hL⟩ : ∃ L, L = (rcs 0 s).length := ⟨_, rfl⟩
    rw [← hL] at f2 hpl hle
    clear hL
    obtain ⟨K, hK⟩ : ∃ K, K = (clOf s p).v.kind := ⟨_, rfl⟩
    rw [← hK] at c2
    have HK := Lib.hid hK
    clear hK
    by_cases hr : 0 < (clOf s p).r
    · have HR := Lib.hid (HL2.out (by unfold busyC; simp [hr]))
      have hd : decide (0 < (clOf s p).r) = true := by simpa using hr
      clear hr
      go_wp2
      go_ret2
      exact FPost.yes HR.out HP.out hbelow.out
    · have hd : decide (0 < (clOf s p).r) = false := by simpa using hr
      cases hw : (clOf s p).w
      · have HB : Hid (busyC (clOf s p) = false) := Lib.hid (by unfold busyC; simp [hr, hw])
        rw [hw] at c6
        clear hr hw
        by_cases hk0 : K = 0
        · have HR := Lib.hid (HL3.out HB.out (HK.out.symm.trans hk0))
          subst hk0
          go_wp2
          go_ret2
          exact FPost.yes HR.out HP.out hbelow.out
        · by_cases hk1 : K = 1
          · have HR := Lib.hid (HL5.out HB.out (HK.out.symm.trans hk1))
            subst hk1
            go_wp2
            go_ret2
            exact FPost.yes HR.out HP.out hbelow.out
          · have HR := Lib.hid (HL4.out HB.out (by rw [← HK.out]; exact hk0) (by rw [← HK.out]; exact hk1))
            have hd0 : (K == 0) = false := by simpa using hk0
            have hd1 : (K != 1) = true := by simpa using hk1
            clear hk0 hk1
            go_wp2
            go_ret2
            exact FPost.yes HR.out HP.out hbelow.out
      · have HR := Lib.hid (HL2.out (by unfold busyC; simp [hw]))
        rw [hw] at c6
        clear hr hw
        go_wp2
        go_ret2
        exact FPost.yes HR.out HP.out hbelow.out
  · have hd : (whyC s p != 0) = true := by simpa using h0
    have HR := Lib.hid (lockW_C rfl h0)
    have HN := Lib.hid h0
    clear h0
    obtain ⟨c, hc⟩ : ∃ c, c = whyC s p := ⟨_, rfl⟩
    rw [← hc] at HR hd ⊢
    clear hc
    go_wp2
    go_ret2
    exact FPost.no HR.out HN.out hbelow.out

end Go.Proofs.Ytnjndggdnmboeaa
