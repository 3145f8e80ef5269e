/- The contracts of mem.Memory's Begin and End. -/
import Derived.Test.YtnjndggdnmboeaaMLook2
namespace Go.Proofs.Ytnjndggdnmboeaa
open Go.RowKit

/- What a call of a memory comes to. -/
def MPost (b : Nat) (s' : MS) (val : Value) (O : Nat → Prop) (w : World) (e : Ending) (w' : World) : Prop :=
  e = .returned val ∧ MemAt w' b s' (grow O w w') ∧ Ch O w w'

structure Own (b : Nat) (v : Value) (gs : List Nat) (O : Nat → Prop) : Prop where
  b : O b
  v : ∀ g, v.ownBlock = some g → O g
  gs : ∀ g ∈ gs, O g
theorem Own.at {b : Nat} {v : Value} {gs : List Nat} {O O' : Nat → Prop} {w : World} {s : MS} (h : Own b v gs O) (hm : MemIs w b v gs s) (hO : ∀ k, O k → O' k) : MemAt w b s O' :=
  ⟨v, gs, hm, hO _ h.b, fun g hg => hO _ (h.v g hg), fun g hg => hO _ (h.gs g hg)⟩
theorem MemAt.open {w : World} {b : Nat} {s : MS} {O : Nat → Prop} (h : MemAt w b s O) : ∃ v gs, MemIs w b v gs s ∧ Own b v gs O := by
  obtain ⟨v, gs, h1, h2, h3, h4⟩ := h
  exact ⟨v, gs, h1, h2, h3, h4⟩

theorem MPost.keep {b : Nat} {v : Value} {gs : List Nat} {O : Nat → Prop} {w w' : World} {s : MS} {val val' : Value} (h : Own b v gs O) (hm : MemIs w' b v gs s) (hb : Below w.heap.size w w') (hv : val = val') {s' : MS} (hs : s' = s) : MPost b s' val' O w (.returned val) w' := by
  subst hv
  subst hs
  exact ⟨rfl, h.at hm fun k hk => .inl hk, Ch.of_below hb⟩
theorem MPost.upd {b : Nat} {v : Value} {gs : List Nat} {O : Nat → Prop} {w W w' : World} {s s' : MS} {p : MV} {g : Nat} {c : MC} {val val' : Value} (h : Own b v gs O) (hm : MemIs W b v gs s) (hb : Below w.heap.size w W) (hp : whyC s p = 0) (hg : gs[at1 p]? = some g)
    (hk : Blk w' g (cRow ((bkOf s p).cells.set p.n.toNat c)) 82) (hc : Ch (· = g) W w') (hv : val = val') (hs : s' = upd s p c) : MPost b s' val' O w (.returned val) w' := by
  subst hv
  subst hs
  refine ⟨rfl, h.at (hm.upd hp hg hk hc) fun k hk => .inl hk, (Ch.of_below hb).trans hc fun i _ e => ?_⟩
  subst e
  exact h.gs _ (List.mem_of_getElem? hg)

theorem upd_self {s : MS} {p : MV} (h : whyC s p = 0) : upd s p (clOf s p) = s := by
  obtain ⟨hB, j, hj, hlt, hcj⟩ := whyC_ok h
  obtain ⟨_, k, hk, hk1, hks, hbk, _⟩ := whyB_ok hB
  unfold upd
  rw [show p.n.toNat = j by omega, set_same hcj, hk1]
  exact set_same hbk

theorem beginW_no {s : MS} {p : MV} {wr : Bool} {c : Int} (h : whyC s p = c) (hc : c ≠ 0) : beginW s p wr = c ∧ beginS s p wr = s := by
  have h1 : beginW s p wr = c := by unfold beginW; rw [if_pos (by rw [h]; exact hc), h]
  exact ⟨h1, by unfold beginS; rw [if_neg (by rw [h1]; exact hc)]⟩
theorem beginW_write {s : MS} {p : MV} (h : whyC s p = 0) : beginW s p true = beginWriteW (busyC (clOf s p)) ∧ beginS s p true = upd s p (beginWriteC (busyC (clOf s p)) (clOf s p)) := by
  have h1 : beginW s p true = beginWriteW (busyC (clOf s p)) := by
    unfold beginW beginWriteW busyC
    rw [if_neg (by omega), Bool.true_and, Bool.or_comm]
  refine ⟨h1, ?_⟩
  unfold beginS
  rw [h1]
  unfold beginWriteW beginWriteC beginC
  cases hz : busyC (clOf s p)
  · simp
  · simp [upd_self h]
theorem beginW_read {s : MS} {p : MV} (h : whyC s p = 0) : beginW s p false = beginReadW (clOf s p).w ∧ beginS s p false = upd s p (beginReadC (clOf s p).w (clOf s p)) := by
  have h1 : beginW s p false = beginReadW (clOf s p).w := by
    unfold beginW beginReadW
    rw [if_neg (by omega)]
    simp
  refine ⟨h1, ?_⟩
  unfold beginS
  rw [h1]
  unfold beginC beginReadW beginReadC
  cases hz : (clOf s p).w
  · simp
  · simp [upd_self h]

set_option maxRecDepth 100000 in
set_option maxHeartbeats 4000000 in
theorem begin_any {w : World} {b : Nat} {s : MS} {O : Nat → Prop} (h0 : MemAt w b s O) (p : MV) (wr : Bool) {N : Int} (hN : Rd s N) (hN1 : N ≤ 1000000) :
    Calls Try.prog 16 #[.pointer (some ⟨b, 0, none⟩), .agg #[.int .i64 p.kind, .int .i64 p.n, .int .i64 p.block], .bool wr] w (MPost b (beginS s p wr) (.int .i64 (beginW s p wr)) O w) := by
  obtain ⟨v, gs, h, hO⟩ := h0.open
  clear h0
  have H := Lib.hid (h.below ((Below.refl w.heap.size w).alloc (Nat.le_refl _) (.cells #[.int .i64 p.kind, .int .i64 p.n, .int .i64 p.block] 34)))
  clear h
  have HO := Lib.hid hO
  have HN := Lib.hid hN
  clear hO hN
  cases wr
  · go_enter Try.func16, Try.ntmps16
    go_wp2_with fail
    ((with_reducible refine (cellOf_any H.out p).mono ?_); rintro e w1 ⟨A, rfl, hA, hb1⟩)
    have HA := Lib.hid hA
    have hbelow := Lib.hid (((Below.refl w.heap.size w).alloc (Nat.le_refl _) (.cells #[.int .i64 p.kind, .int .i64 p.n, .int .i64 p.block] 34)).trans (hb1.mono (by simp)))
    have H1 := Lib.hid (H.out.below hb1)
    clear hA hb1
    by_cases h0 : whyC s p = 0
    · obtain ⟨g, hg, rfl⟩ := HA.out h0
      obtain ⟨hB, hc⟩ := H1.out.cellRow h0 hg
      have hr := HN.out.cl h0
      have hcall := beginRead_any hB hc hr.1 (by omega)
      have HG := Lib.hid hg
      have H0 := Lib.hid h0
      have HC := Lib.hid (beginW_read h0)
      rw [h0]
      clear hB hc hg h0 hr
      go_wp2_with fail
      ((with_reducible refine hcall.mono ?_); rintro e w2 ⟨rfl, hk2, hc2⟩)
      have HK := Lib.hid hk2
      have HC2 := Lib.hid hc2
      clear hk2 hc2 hcall
      go_wp2
      go_ret
      exact MPost.upd HO.out H1.out hbelow.out H0.out HG.out HK.out HC2.out (by rw [HC.out.1]; rfl) HC.out.2
    · have hd : (whyC s p != 0) = true := by simpa using h0
      have HR := Lib.hid (beginW_no (wr := false) rfl h0)
      have H0 := Lib.hid h0
      clear h0
      generalize whyC s p = c at *
      go_wp2
      go_ret
      exact MPost.keep HO.out H1.out hbelow.out (by rw [HR.out.1]; rfl) HR.out.2
  · go_enter Try.func16, Try.ntmps16
    go_wp2_with fail
    ((with_reducible refine (cellOf_any H.out p).mono ?_); rintro e w1 ⟨A, rfl, hA, hb1⟩)
    have HA := Lib.hid hA
    have hbelow := Lib.hid (((Below.refl w.heap.size w).alloc (Nat.le_refl _) (.cells #[.int .i64 p.kind, .int .i64 p.n, .int .i64 p.block] 34)).trans (hb1.mono (by simp)))
    have H1 := Lib.hid (H.out.below hb1)
    clear hA hb1
    by_cases h0 : whyC s p = 0
    · obtain ⟨g, hg, rfl⟩ := HA.out h0
      obtain ⟨hB, hc⟩ := H1.out.cellRow h0 hg
      have hcall := beginWrite_any hB hc
      have HG := Lib.hid hg
      have H0 := Lib.hid h0
      have HC := Lib.hid (beginW_write h0)
      rw [h0]
      clear hB hc hg h0
      go_wp2_with fail
      ((with_reducible refine hcall.mono ?_); rintro e w2 ⟨rfl, hk2, hc2⟩)
      have HK := Lib.hid hk2
      have HC2 := Lib.hid hc2
      clear hk2 hc2 hcall
      go_wp2
      go_ret
      exact MPost.upd HO.out H1.out hbelow.out H0.out HG.out HK.out HC2.out (by rw [HC.out.1]; rfl) HC.out.2
    · have hd : (whyC s p != 0) = true := by simpa using h0
      have HR := Lib.hid (beginW_no (wr := true) rfl h0)
      have H0 := Lib.hid h0
      clear h0
      generalize whyC s p = c at *
      go_wp2
      go_ret
      exact MPost.keep HO.out H1.out hbelow.out (by rw [HR.out.1]; rfl) HR.out.2

end Go.Proofs.Ytnjndggdnmboeaa
