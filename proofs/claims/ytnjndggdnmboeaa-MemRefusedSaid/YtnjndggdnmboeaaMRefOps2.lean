/- The contracts of lychgateref06.Begin, Lock and Unlock. -/
import Derived.Test.YtnjndggdnmboeaaMRefOps
import Derived.StillTailTactics
namespace Go.Proofs.Ytnjndggdnmboeaa
open Go.RowKit

theorem lRow_upd {s : MS} {p : MV} (hp : whyC s p = 0) (c : MC) : lRow (upd s p c) = lRow s ∧ zRowS (upd s p c) = zRowS s := by
  obtain ⟨hB, j, hj, hlt, hcj⟩ := whyC_ok hp
  obtain ⟨_, k, hk, hk1, hks, hbk, _⟩ := whyB_ok hB
  unfold lRow zRowS upd
  rw [List.map_set, List.map_set, hk1]
  constructor
  · exact set_same (by rw [List.getElem?_map, hbk]; rfl)
  · refine set_same ?_
    rw [List.getElem?_map, hbk]
    simp
theorem rcs_upd_len {s : MS} {p : MV} (hp : whyC s p = 0) (c : MC) : (rcs 0 (upd s p c)).length = (rcs 0 s).length := by rw [← rcs_upd hp c, List.length_set]

/- The cells' row is another one, by one cell. -/
theorem RefIs.row {w w' : World} {b : Nat} {vl vs vc : Value} {s : MS} (h : RefIs w b vl vs vc s) {p : MV} (hp : whyC s p = 0) (c : MC) {g : Nat} (hg : vc.ownBlock = some g) (hrow : w'.ownsRow 0 72 7 vc (rcs 0 s).length (rRow ((rcs 0 s).set (placeR s p) ⟨at1 p + 1, p.n.toNat, c⟩))) (hc : Ch (· = g) w w') : RefIs w' b vl vs vc (upd s p c) := by
  have e1 : usedS (Go.Proofs.Ytnjndggdnmboeaa.upd s p c) = usedS s := usedS_upd _ _ _
  have hn := h.nc g hg
  refine ⟨?_, ?_, ?_, ?_, h.nl, h.ns, h.nc, by rw [e1]; exact h.most⟩
  · rw [e1]
    exact h.blk.ch hc (fun e => hn.1 e.symm)
  · rw [upd_len, (lRow_upd hp c).1]
    exact row_same h.live fun g' hg' => hc.block _ (row_lt h.live hg') (fun e => hn.2.1 (e ▸ hg'))
  · rw [upd_len, (lRow_upd hp c).2]
    exact row_same h.sizes fun g' hg' => hc.block _ (row_lt h.sizes hg') (fun e => hn.2.2 (e ▸ hg'))
  · rw [rcs_upd_len hp, ← rcs_upd hp c]
    exact hrow
theorem RefIs.put {w : World} {b g cap : Nat} {vl vs : Value} {s : MS} (h : RefIs w b vl vs (.slice (some ⟨g, 0, none⟩) (rcs 0 s).length cap) s) {p : MV} (hp : whyC s p = 0) (i : Nat) (hi : i < 7) (u : Value) (c : MC) (hc : (rCells ⟨at1 p + 1, p.n.toNat, clOf s p⟩).set i u = rCells ⟨at1 p + 1, p.n.toNat, c⟩) :
    RefIs (w.setCell ⟨g, placeR s p * 7 + i, none⟩ u) b vl vs (.slice (some ⟨g, 0, none⟩) (rcs 0 s).length cap) (upd s p c) := by
  obtain ⟨h1, _, _⟩ := rcs_hit hp
  refine h.row hp c rfl ?_ ((Ch.refl _ _).set _ (.inl (show g = g from rfl)) _)
  have := (h.cells.stored (placeR s p * 7 + i) u).1
  rw [rRow_set h1 i hi u _ hc] at this
  exact this

structure OwnR (b : Nat) (vl vs vc : Value) (O : Nat → Prop) : Prop where
  b : O b
  l : ∀ g, vl.ownBlock = some g → O g
  s : ∀ g, vs.ownBlock = some g → O g
  c : ∀ g, vc.ownBlock = some g → O g
theorem RefAt.open {w : World} {b : Nat} {s : MS} {O : Nat → Prop} (h : RefAt w b s O) : ∃ vl vs vc, RefIs w b vl vs vc s ∧ OwnR b vl vs vc O := by
  obtain ⟨vl, vs, vc, h1, h2, h3, h4, h5⟩ := h
  exact ⟨vl, vs, vc, h1, h2, h3, h4, h5⟩
def RPost (b : Nat) (s' : MS) (val : Value) (O : Nat → Prop) (w : World) (e : Ending) (w' : World) : Prop :=
  e = .returned val ∧ RefAt w' b s' (grow O w w') ∧ Ch O w w'
theorem RPost.mk {b : Nat} {vl vs vc : Value} {O : Nat → Prop} {w w' : World} {s s' : MS} {val val' : Value} (h : OwnR b vl vs vc O) (hm : RefIs w' b vl vs vc s) (hc : Ch O w w') (hv : val = val') (hs : s' = s) : RPost b s' val' O w (.returned val) w' := by
  subst hv
  subst hs
  exact ⟨rfl, ⟨vl, vs, vc, hm, .inl h.b, fun g hg => .inl (h.l g hg), fun g hg => .inl (h.s g hg), fun g hg => .inl (h.c g hg)⟩, hc⟩

theorem beginW_eq {s : MS} {p : MV} {wr : Bool} (h : whyC s p = 0) : (((clOf s p).w || (wr && decide (0 < (clOf s p).r))) = true → beginW s p wr = 6 ∧ beginS s p wr = s) ∧ (((clOf s p).w || (wr && decide (0 < (clOf s p).r))) = false → beginW s p wr = 0 ∧ beginS s p wr = upd s p (beginC (clOf s p) wr)) := by
  constructor
  · intro hb
    have h1 : beginW s p wr = 6 := by unfold beginW; rw [if_neg (by omega), if_pos hb]
    exact ⟨h1, by unfold beginS; rw [if_neg (by rw [h1]; decide)]⟩
  · intro hb
    have h1 : beginW s p wr = 0 := by unfold beginW; rw [if_neg (by omega), if_neg (by rw [hb]; decide)]
    exact ⟨h1, by unfold beginS; rw [if_pos h1]⟩

set_option maxRecDepth 100000 in
set_option maxHeartbeats 4000000 in
theorem refBegin_any {w : World} {b : Nat} {s : MS} {O : Nat → Prop} (hh : RefAt w b s O) (p : MV) (wr : Bool) {N : Int} (hN : Rd s N) (hN1 : N ≤ 1000000) :
    Calls Try.prog 21 #[.pointer (some ⟨b, 0, none⟩), .agg #[.int .i64 p.kind, .int .i64 p.n, .int .i64 p.block], .bool wr] w (RPost b (beginS s p wr) (.int .i64 (beginW s p wr)) O w) := by
  obtain ⟨vl, vs, vc, h, hO⟩ := hh.open
  clear hh
  have H := Lib.hid (h.below ((Below.refl w.heap.size w).alloc (Nat.le_refl _) (.cells #[.int .i64 p.kind, .int .i64 p.n, .int .i64 p.block] 61)))
  have HO := Lib.hid hO
  have HN := Lib.hid hN
  clear h hO hN
  go_enter Try.func21, Try.ntmps21
  go_wp2_with fail
  ((with_reducible refine (find_any H.out p).mono ?_); rintro e w1 ⟨i, rfl, hi, hb1⟩)
  have hbelow := Lib.hid (((Below.refl w.heap.size w).alloc (Nat.le_refl _) (.cells #[.int .i64 p.kind, .int .i64 p.n, .int .i64 p.block] 61)).trans (hb1.mono (by simp)))
  have H1 := Lib.hid (H.out.below hb1)
  have HI := Lib.hid hi
  clear hb1 hi
  by_cases h0 : whyC s p = 0
  · obtain rfl := HI.out h0
    obtain ⟨g, cap, rfl, f2, hpl, hle, hgl, hbl, hfz, c2, c3, c4, c5, c6⟩ := H1.out.at h0
    have z5 := hfz (placeR s p * 7 + 5)
    have z6 := hfz (placeR s p * 7 + 6)
    have hrd := HN.out.cl h0
    have HB := Lib.hid (beginW_eq (wr := wr) h0)
    have HP6 := Lib.hid (H1.out.put h0 6 (by omega) (.bool true) ⟨(clOf s p).v, (clOf s p).r, true⟩ rfl)
    have HP5 := Lib.hid (H1.out.put h0 5 (by omega) (.int .i64 ((clOf s p).r + 1)) ⟨(clOf s p).v, (clOf s p).r + 1, (clOf s p).w⟩ rfl)
    have hset : ∀ i u, Ch O w (w1.setCell ⟨g, i, none⟩ u) := fun i u => (Ch.of_below hbelow.out).set _ (.inl (HO.out.c g rfl)) _
    have HS := Lib.hid hset
    rw [h0]
    have hpl0 : (0 : Int) ≤ (placeR s p : Int) := by omega
    clear h0 c2 c3 c4 hfz hset
    obtain ⟨P, hP⟩ : ∃ P, P = placeR s p := ⟨_, rfl⟩
    rw [← hP] at hpl hpl0 c5 c6 z5 z6 HP5 HP6 ⊢
    clear hP
    obtain ⟨L, hL⟩ : ∃ L, L = (rcs 0 s).length := ⟨_, rfl⟩
    rw [← hL] at f2 hpl hle
    clear hL
    have HBw := HB
    cases hw : (clOf s p).w
    · rw [hw] at c6
      cases wr
      · have HR := Lib.hid (HB.out.2 (by rw [hw]; rfl))
        have HP5' : Hid (RefIs _ b vl vs _ (upd s p (beginC (clOf s p) false))) := HP5
        clear hw
        have r0 := hrd.1
        have r1 : (clOf s p).r ≤ 1000000 := by omega
        obtain ⟨R, hR⟩ : ∃ R, R = (clOf s p).r := ⟨_, rfl⟩
        rw [← hR] at c5 r0 r1 HP5'
        clear hR hrd HP5
        go_wp2
        go_still_tail 16, (by kernel_rfl)
        go_wp2
        go_ret
        exact RPost.mk HO.out (HP5'.out.below ((Below.refl _ _).drew)) ((HS.out _ _).trans (O' := O) (Ch.of_below ((Below.refl _ _).drew)) (fun _ _ h => h)) (by rw [HR.out.1]; rfl) HR.out.2
      · clear hrd HP5
        by_cases hr : 0 < (clOf s p).r
        · have hd : decide (0 < (clOf s p).r) = true := by simpa using hr
          have HR := Lib.hid (HB.out.1 (by rw [hw, hd]; rfl))
          clear hw hr
          go_wp2
          go_ret
          exact RPost.mk HO.out H1.out (Ch.of_below hbelow.out) (by rw [HR.out.1]; rfl) HR.out.2
        · have hd : decide (0 < (clOf s p).r) = false := by simpa using hr
          have HR := Lib.hid (HB.out.2 (by rw [hw, hd]; rfl))
          have HP6' : Hid (RefIs _ b vl vs _ (upd s p (beginC (clOf s p) true))) := HP6
          clear hw hr
          go_wp2
          go_ret
          exact RPost.mk HO.out HP6'.out (HS.out _ _) (by rw [HR.out.1]; rfl) HR.out.2
    · rw [hw] at c6
      have HR := Lib.hid (HB.out.1 (by rw [hw]; rfl))
      clear hw
      go_wp2
      go_ret
      exact RPost.mk HO.out H1.out (Ch.of_below hbelow.out) (by rw [HR.out.1]; rfl) HR.out.2
  · have hd : (whyC s p != 0) = true := by simpa using h0
    have HR := Lib.hid (beginW_no (wr := wr) rfl h0)
    clear h0
    obtain ⟨c, hc⟩ : ∃ c, c = whyC s p := ⟨_, rfl⟩
    rw [← hc] at HR hd ⊢
    clear hc
    go_wp2
    go_ret
    exact RPost.mk HO.out H1.out (Ch.of_below hbelow.out) (by rw [HR.out.1]; rfl) HR.out.2

set_option maxRecDepth 100000 in
set_option maxHeartbeats 4000000 in
theorem refLock_any {w : World} {b : Nat} {s : MS} {O : Nat → Prop} (hh : RefAt w b s O) (p : MV) :
    Calls Try.prog 23 #[.pointer (some ⟨b, 0, none⟩), .agg #[.int .i64 p.kind, .int .i64 p.n, .int .i64 p.block]] w (RPost b (lockS s p) (.tuple #[.bool (lockR s p), .int .i64 (lockW s p)]) O w) := by
  obtain ⟨vl, vs, vc, h, hO⟩ := hh.open
  clear hh
  have H := Lib.hid (h.below ((Below.refl w.heap.size w).alloc (Nat.le_refl _) (.cells #[.int .i64 p.kind, .int .i64 p.n, .int .i64 p.block] 61)))
  have HO := Lib.hid hO
  clear h hO
  go_enter Try.func23, Try.ntmps23
  go_wp2_with fail
  ((with_reducible refine (whole_any H.out p).mono ?_); rintro e w1 ⟨i, rfl, hi, hb1⟩)
  have hbelow := Lib.hid (((Below.refl w.heap.size w).alloc (Nat.le_refl _) (.cells #[.int .i64 p.kind, .int .i64 p.n, .int .i64 p.block] 61)).trans (hb1.mono (by simp)))
  have H1 := Lib.hid (H.out.below hb1)
  have HI := Lib.hid hi
  clear hb1 hi
  by_cases hl : lockW s p = 0
  · have h0 := lockW_ok hl
    obtain rfl := HI.out h0
    obtain ⟨g, cap, rfl, f2, hpl, hle, hgl, hbl, hfz, c2, c3, c4, c5, c6⟩ := H1.out.at h0
    have z3 := hfz (placeR s p * 7 + 3)
    have HP3 := Lib.hid (H1.out.put h0 3 (by omega) (.int .i64 1) (putN (clOf s p) 1) rfl)
    have hset : ∀ i u, Ch O w (w1.setCell ⟨g, i, none⟩ u) := fun i u => (Ch.of_below hbelow.out).set _ (.inl (HO.out.c g rfl)) _
    have HS := Lib.hid hset
    have HL := Lib.hid hl
    have hpl0 : (0 : Int) ≤ (placeR s p : Int) := by omega
    have HY := Lib.hid (fun hn => lockR_yes (s := s) (p := p) hl hn)
    have HNO := Lib.hid (fun hn => lockR_held (s := s) (p := p) hn)
    rw [hl]
    clear h0 c2 c4 c5 c6 hfz hset hl
    obtain ⟨P, hP⟩ : ∃ P, P = placeR s p := ⟨_, rfl⟩
    rw [← hP] at hpl hpl0 c3 z3 HP3 ⊢
    clear hP
    obtain ⟨L, hL⟩ : ∃ L, L = (rcs 0 s).length := ⟨_, rfl⟩
    rw [← hL] at f2 hpl hle
    clear hL
    by_cases hn : (clOf s p).v.n = 0
    · have HR := Lib.hid (HY.out hn)
      rw [hn] at c3
      clear hn
      go_wp2
      go_ret2
      exact RPost.mk HO.out HP3.out (HS.out _ _) (by rw [HR.out, HL.out]; rfl) (lockS_yes HR.out)
    · have HR := Lib.hid (HNO.out hn)
      have hd : ((clOf s p).v.n != 0) = true := by simpa using hn
      clear hn
      go_wp2
      go_ret2
      exact RPost.mk HO.out H1.out (Ch.of_below hbelow.out) (by rw [HR.out, HL.out]; rfl) (lockS_no HR.out)
  · have hd : (lockW s p != 0) = true := by simpa using hl
    have HR := Lib.hid (lockR_no rfl hl)
    clear hl
    obtain ⟨c, hc⟩ : ∃ c, c = lockW s p := ⟨_, rfl⟩
    rw [← hc] at hd ⊢
    have HC := Lib.hid hc
    clear hc
    go_wp2
    go_ret2
    exact RPost.mk HO.out H1.out (Ch.of_below hbelow.out) (by rw [HR.out, HC.out]; rfl) (lockS_no HR.out)

set_option maxRecDepth 100000 in
set_option maxHeartbeats 4000000 in
theorem refUnlock_any {w : World} {b : Nat} {s : MS} {O : Nat → Prop} (hh : RefAt w b s O) (p : MV) :
    Calls Try.prog 24 #[.pointer (some ⟨b, 0, none⟩), .agg #[.int .i64 p.kind, .int .i64 p.n, .int .i64 p.block]] w (RPost b (unlockS s p) (.int .i64 (lockW s p)) O w) := by
  obtain ⟨vl, vs, vc, h, hO⟩ := hh.open
  clear hh
  have H := Lib.hid (h.below ((Below.refl w.heap.size w).alloc (Nat.le_refl _) (.cells #[.int .i64 p.kind, .int .i64 p.n, .int .i64 p.block] 61)))
  have HO := Lib.hid hO
  clear h hO
  go_enter Try.func24, Try.ntmps24
  go_wp2_with fail
  ((with_reducible refine (whole_any H.out p).mono ?_); rintro e w1 ⟨i, rfl, hi, hb1⟩)
  have hbelow := Lib.hid (((Below.refl w.heap.size w).alloc (Nat.le_refl _) (.cells #[.int .i64 p.kind, .int .i64 p.n, .int .i64 p.block] 61)).trans (hb1.mono (by simp)))
  have H1 := Lib.hid (H.out.below hb1)
  have HI := Lib.hid hi
  clear hb1 hi
  by_cases hl : lockW s p = 0
  · have h0 := lockW_ok hl
    obtain rfl := HI.out h0
    obtain ⟨g, cap, rfl, f2, hpl, hle, hgl, hbl, hfz, c2, c3, c4, c5, c6⟩ := H1.out.at h0
    have z3 := hfz (placeR s p * 7 + 3)
    have HP3 := Lib.hid (H1.out.put h0 3 (by omega) (.int .i64 0) (putN (clOf s p) 0) rfl)
    have hset : ∀ i u, Ch O w (w1.setCell ⟨g, i, none⟩ u) := fun i u => (Ch.of_below hbelow.out).set _ (.inl (HO.out.c g rfl)) _
    have HS := Lib.hid hset
    have HL := Lib.hid hl
    have hpl0 : (0 : Int) ≤ (placeR s p : Int) := by omega
    rw [hl]
    clear h0 c2 c4 c5 c6 hfz hset hl
    obtain ⟨P, hP⟩ : ∃ P, P = placeR s p := ⟨_, rfl⟩
    rw [← hP] at hpl hpl0 c3 z3 HP3 ⊢
    clear hP
    obtain ⟨L, hL⟩ : ∃ L, L = (rcs 0 s).length := ⟨_, rfl⟩
    rw [← hL] at f2 hpl hle
    clear hL
    go_wp2
    go_ret
    exact RPost.mk HO.out HP3.out (HS.out _ _) (by rw [HL.out]; rfl) (unlockS_yes HL.out)
  · have hd : (lockW s p == 0) = false := by simpa using hl
    have HR := Lib.hid hl
    clear hl
    obtain ⟨c, hc⟩ : ∃ c, c = lockW s p := ⟨_, rfl⟩
    rw [← hc] at hd ⊢
    have HC := Lib.hid hc
    clear hc
    go_wp2
    go_ret
    exact RPost.mk HO.out H1.out (Ch.of_below hbelow.out) (by rw [HC.out]; rfl) (unlockS_no HR.out)

end Go.Proofs.Ytnjndggdnmboeaa
