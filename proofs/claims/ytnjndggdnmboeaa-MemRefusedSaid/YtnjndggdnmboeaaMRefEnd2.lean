/- The contract of lychgateref06.End. -/
import Derived.Test.YtnjndggdnmboeaaMRefEnd
import Derived.StillTailTactics
namespace Go.Proofs.Ytnjndggdnmboeaa
open Go.RowKit

theorem RefIs.ch {O : Nat → Prop} {w w' : World} {b : Nat} {vl vs vc : Value} {s : MS} (h : RefIs w b vl vs vc s) (hc : Ch O w w') (hb : ¬ O b) (hl : ∀ g, vl.ownBlock = some g → ¬ O g) (hs : ∀ g, vs.ownBlock = some g → ¬ O g) (hv : ∀ g, vc.ownBlock = some g → ¬ O g) : RefIs w' b vl vs vc s :=
  h.same (hc.block _ h.blk.lt hb) (fun _ hg => hc.block _ (row_lt h.live hg) (hl _ hg)) (fun _ hg => hc.block _ (row_lt h.sizes hg) (hs _ hg)) (fun _ hg => hc.block _ (row_lt h.cells hg) (hv _ hg))
theorem RefIs.new {w0 w w' : World} {b : Nat} {vl vs vc : Value} {s0 s : MS} (h0 : RefIs w0 b vl vs vc s0) (h : RefIs w b vl vs vc s) (hc : Ch (fun k => w0.heap.size ≤ k) w w') : RefIs w' b vl vs vc s := by
  have h1 := h0.blk.lt
  refine h.ch hc (by omega) (fun g hg => ?_) (fun g hg => ?_) (fun g hg => ?_)
  · have := row_lt h0.live hg
    omega
  · have := row_lt h0.sizes hg
    omega
  · have := row_lt h0.cells hg
    omega
theorem rend_w {s : MS} {p : MV} {x : MV} (h : whyC s p = 0) : ((clOf s p).w = false → endW s p true = 6 ∧ endS s p true x = s ∧ endV s p true = v0) ∧ ((clOf s p).w = true → endW s p true = 0 ∧ endS s p true x = upd s p ⟨needV x, (clOf s p).r, false⟩ ∧ endV s p true = v0) := by
  obtain ⟨h1, h2, h3⟩ := endW_write (v := x) h
  constructor
  · intro hw
    rw [hw] at h1 h2
    exact ⟨h1, by rw [h2]; exact upd_self h, h3⟩
  · intro hw
    rw [hw] at h1 h2
    exact ⟨h1, h2, h3⟩
theorem rend_r {s : MS} {p : MV} {x : MV} (h : whyC s p = 0) : ((clOf s p).r = 0 → endW s p false = 6 ∧ endS s p false x = s ∧ endV s p false = v0) ∧
    ((clOf s p).r ≠ 0 → (clOf s p).v.kind = 0 → endW s p false = 4 ∧ endS s p false x = upd s p ⟨(clOf s p).v, (clOf s p).r - 1, (clOf s p).w⟩ ∧ endV s p false = v0) ∧
    ((clOf s p).r ≠ 0 → (clOf s p).v.kind ≠ 0 → endW s p false = 0 ∧ endS s p false x = upd s p ⟨(clOf s p).v, (clOf s p).r - 1, (clOf s p).w⟩ ∧ endV s p false = (clOf s p).v) := by
  obtain ⟨h1, h2, h3⟩ := endW_read (v := x) h
  refine ⟨fun hr => ?_, fun hr hk => ?_, fun hr hk => ?_⟩
  · have e1 : endReadW (clOf s p) = 6 := by unfold endReadW; rw [if_pos hr]
    have e2 : endReadC (clOf s p) = clOf s p := by unfold endReadC; rw [if_pos hr]
    have e3 : endReadV (clOf s p) = v0 := by unfold endReadV; rw [e1]; rfl
    exact ⟨by rw [h1, e1], by rw [h2, e2]; exact upd_self h, by rw [h3, e3]⟩
  · have e1 : endReadW (clOf s p) = 4 := by unfold endReadW; rw [if_neg hr, if_pos hk]
    have e2 : endReadC (clOf s p) = ⟨(clOf s p).v, (clOf s p).r - 1, (clOf s p).w⟩ := by unfold endReadC; rw [if_neg hr]
    have e3 : endReadV (clOf s p) = v0 := by unfold endReadV; rw [e1]; rfl
    exact ⟨by rw [h1, e1], by rw [h2, e2], by rw [h3, e3]⟩
  · have e1 : endReadW (clOf s p) = 0 := by unfold endReadW; rw [if_neg hr, if_neg hk]
    have e2 : endReadC (clOf s p) = ⟨(clOf s p).v, (clOf s p).r - 1, (clOf s p).w⟩ := by unfold endReadC; rw [if_neg hr]
    have e3 : endReadV (clOf s p) = (clOf s p).v := by unfold endReadV; rw [e1]; rfl
    exact ⟨by rw [h1, e1], by rw [h2, e2], by rw [h3, e3]⟩

theorem wend_call {w w1 w2 : World} {b g cap L n : Nat} {vl vs : Value} {s : MS} {O : Nat → Prop} {t : TypeId} {cs : List Value} (h : RefIs w1 b vl vs (.slice (some ⟨g, 0, none⟩) L cap) s) (hb : Blk w1 n cs t) (hc : Ch O w w1) (hb2 : Below w1.heap.size w1 w2) (_hn : n < w1.heap.size) (_ : g < w.heap.size) :
    RefIs w2 b vl vs (.slice (some ⟨g, 0, none⟩) L cap) s ∧ Blk w2 n cs t ∧ Ch O w w2 :=
  ⟨h.below hb2, hb.below hb2 hb.lt, hc.trans (O' := O) (Ch.of_below hb2) (fun _ _ h => h)⟩
theorem wend_cells {w : World} {b g cap L P : Nat} {vl vs : Value} {s : MS} {p : MV} {c : MC} (h : RefIs w b vl vs (.slice (some ⟨g, 0, none⟩) L cap) (upd s p c)) (hp : whyC s p = 0) (hP : P = placeR s p) :
    w.cell? ⟨g, P * 7 + 2, none⟩ = some (.int .i64 c.v.kind) ∧ w.cell? ⟨g, P * 7 + 3, none⟩ = some (.int .i64 c.v.n) ∧ w.cell? ⟨g, P * 7 + 4, none⟩ = some (.int .i64 c.v.block) ∧ w.frozen? ⟨g, P * 7 + 2, none⟩ = false ∧ w.frozen? ⟨g, P * 7 + 3, none⟩ = false ∧ w.frozen? ⟨g, P * 7 + 4, none⟩ = false ∧ g < w.heap.size := by
  obtain ⟨h1, h2, h3, _⟩ := upd_facts hp c
  obtain ⟨g', cap', hv, _, _, _, hgl, _, hfz, c2, c3, c4, _, _⟩ := h.at h1
  simp only [Value.slice.injEq, Option.some.injEq, Addr.mk.injEq, and_true] at hv
  obtain ⟨rfl, _, _⟩ := hv
  rw [h2, h3, ← hP] at c2 c3 c4
  exact ⟨c2, c3, c4, hfz _, hfz _, hfz _, hgl⟩
theorem below_undrew {a w : World} (h : Below a.drew.heap.size a.drew w) : Below a.heap.size a w := ⟨h.os, h.tape, h.output, h.size, h.block⟩
theorem wend_store {w2 : World} {b g n o1 o2 o3 : Nat} {u1 u2 u3 a v0 v1 v2 : Value} (h : w2.cell? ⟨b, 2, none⟩ = some a ∧ w2.cell? ⟨n, 0, none⟩ = some v0 ∧ w2.cell? ⟨n, 1, none⟩ = some v1 ∧ w2.cell? ⟨n, 2, none⟩ = some v2) (hbg : b ≠ g) (hng : n ≠ g) :
    (((w2.setCell ⟨g, o1, none⟩ u1).setCell ⟨g, o2, none⟩ u2).setCell ⟨g, o3, none⟩ u3).cell? ⟨b, 2, none⟩ = some a ∧ (((w2.setCell ⟨g, o1, none⟩ u1).setCell ⟨g, o2, none⟩ u2).setCell ⟨g, o3, none⟩ u3).cell? ⟨n, 0, none⟩ = some v0 ∧ (((w2.setCell ⟨g, o1, none⟩ u1).setCell ⟨g, o2, none⟩ u2).setCell ⟨g, o3, none⟩ u3).cell? ⟨n, 1, none⟩ = some v1 ∧ (((w2.setCell ⟨g, o1, none⟩ u1).setCell ⟨g, o2, none⟩ u2).setCell ⟨g, o3, none⟩ u3).cell? ⟨n, 2, none⟩ = some v2 := by
  have far : ∀ x i, x ≠ g → (((w2.setCell ⟨g, o1, none⟩ u1).setCell ⟨g, o2, none⟩ u2).setCell ⟨g, o3, none⟩ u3).cell? ⟨x, i, none⟩ = w2.cell? ⟨x, i, none⟩ := fun x i hx => World.cell?_of_block (a := ⟨x, i, none⟩) (by
    rw [Below.heap_setCell _ ⟨g, o3, none⟩ u3 x hx, Below.heap_setCell _ ⟨g, o2, none⟩ u2 x hx, Below.heap_setCell _ ⟨g, o1, none⟩ u1 x hx])
  exact ⟨(far b 2 hbg).trans h.1, (far n 0 hng).trans h.2.1, (far n 1 hng).trans h.2.2.1, (far n 2 hng).trans h.2.2.2⟩
theorem wend_first {w1 : World} {b g n P : Nat} {u : Value} (hbg : b ≠ g) (hng : n ≠ g) {a v0 v1 v2 : Value}
    (h0 : w1.cell? ⟨b, 2, none⟩ = some a) (h1 : w1.cell? ⟨n, 0, none⟩ = some v0) (h2 : w1.cell? ⟨n, 1, none⟩ = some v1) (h3 : w1.cell? ⟨n, 2, none⟩ = some v2) : (w1.setCell ⟨g, P * 7 + 6, none⟩ u).cell? ⟨b, 2, none⟩ = some a ∧ (w1.setCell ⟨g, P * 7 + 6, none⟩ u).cell? ⟨n, 0, none⟩ = some v0 ∧ (w1.setCell ⟨g, P * 7 + 6, none⟩ u).cell? ⟨n, 1, none⟩ = some v1 ∧ (w1.setCell ⟨g, P * 7 + 6, none⟩ u).cell? ⟨n, 2, none⟩ = some v2 := by
  have far : ∀ x i, x ≠ g → (w1.setCell ⟨g, P * 7 + 6, none⟩ u).cell? ⟨x, i, none⟩ = w1.cell? ⟨x, i, none⟩ := fun x i hx => World.cell?_of_block (a := ⟨x, i, none⟩) (Below.heap_setCell w1 ⟨g, P * 7 + 6, none⟩ u x hx)
  exact ⟨(far b 2 hbg).trans h0, (far n 0 hng).trans h1, (far n 1 hng).trans h2, (far n 2 hng).trans h3⟩
theorem wend_keep {w1 w2 : World} {b g n P : Nat} {u : Value} (hb2 : Below (w1.setCell ⟨g, P * 7 + 6, none⟩ u).heap.size (w1.setCell ⟨g, P * 7 + 6, none⟩ u) w2) (hb : b < (w1.setCell ⟨g, P * 7 + 6, none⟩ u).heap.size) (hn : n < (w1.setCell ⟨g, P * 7 + 6, none⟩ u).heap.size) (hbg : b ≠ g) (hng : n ≠ g) {a v0 v1 v2 : Value}
    (h0 : w1.cell? ⟨b, 2, none⟩ = some a) (h1 : w1.cell? ⟨n, 0, none⟩ = some v0) (h2 : w1.cell? ⟨n, 1, none⟩ = some v1) (h3 : w1.cell? ⟨n, 2, none⟩ = some v2) : w2.cell? ⟨b, 2, none⟩ = some a ∧ w2.cell? ⟨n, 0, none⟩ = some v0 ∧ w2.cell? ⟨n, 1, none⟩ = some v1 ∧ w2.cell? ⟨n, 2, none⟩ = some v2 := by
  have far : ∀ x i, x ≠ g → (w1.setCell ⟨g, P * 7 + 6, none⟩ u).cell? ⟨x, i, none⟩ = w1.cell? ⟨x, i, none⟩ := fun x i hx => World.cell?_of_block (a := ⟨x, i, none⟩) (Below.heap_setCell w1 ⟨g, P * 7 + 6, none⟩ u x hx)
  exact ⟨((bcell hb2).1 b 2 hb).trans ((far b 2 hbg).trans h0), ((bcell hb2).1 n 0 hn).trans ((far n 0 hng).trans h1), ((bcell hb2).1 n 1 hn).trans ((far n 1 hng).trans h2), ((bcell hb2).1 n 2 hn).trans ((far n 2 hng).trans h3)⟩

abbrev rendW0 (w : World) (p v : MV) : World := ((w.alloc (.cells #[.int .i64 p.kind, .int .i64 p.n, .int .i64 p.block] 61)).alloc (.cells #[.int .i64 v.kind, .int .i64 v.n, .int .i64 v.block] 61)).alloc (.cells #[.int .i64 0, .int .i64 0, .int .i64 0] 61)

set_option maxRecDepth 100000 in
set_option maxHeartbeats 4000000 in
theorem refEndR_any {w : World} {b : Nat} {s : MS} {O : Nat → Prop} (hh : RefAt w b s O) (p : MV) (x : MV) {N : Int} (hN : Rd s N) (hN1 : N ≤ 1000000) :
    Calls Try.prog 22 #[.pointer (some ⟨b, 0, none⟩), .agg #[.int .i64 p.kind, .int .i64 p.n, .int .i64 p.block], .bool false, .agg #[.int .i64 x.kind, .int .i64 x.n, .int .i64 x.block]] w (RPost b (endS s p false x) (.tuple #[vV (endV s p false), .int .i64 (endW s p false)]) O w) := by
  obtain ⟨vl, vs, vc, h, hO⟩ := hh.open
  clear hh
  have hbl : Below w.heap.size w (rendW0 w p x) := (((Below.refl w.heap.size w).alloc (Nat.le_refl _) _).alloc (by simp) _).alloc (by simp; omega) _
  have H := Lib.hid (h.below hbl)
  have HBL := Lib.hid hbl
  have HI0 := Lib.hid h
  have HO := Lib.hid hO
  have HN := Lib.hid hN
  clear h hbl hO hN
  have HBx := Lib.hid (show Blk (rendW0 w p x) (w.heap.size + 1) [.int .i64 x.kind, .int .i64 x.n, .int .i64 x.block] 61 by
    have := (Blk.new (w.alloc (.cells #[.int .i64 p.kind, .int .i64 p.n, .int .i64 p.block] 61)) [.int .i64 x.kind, .int .i64 x.n, .int .i64 x.block] 61).alloc (.cells #[.int .i64 0, .int .i64 0, .int .i64 0] 61)
    rw [World.size_alloc] at this
    exact this)
  have HBr := Lib.hid (show Blk (rendW0 w p x) (w.heap.size + 1 + 1) [.int .i64 0, .int .i64 0, .int .i64 0] 61 by
    have := Blk.new ((w.alloc (.cells #[.int .i64 p.kind, .int .i64 p.n, .int .i64 p.block] 61)).alloc (.cells #[.int .i64 x.kind, .int .i64 x.n, .int .i64 x.block] 61)) [.int .i64 0, .int .i64 0, .int .i64 0] 61
    rw [World.size_alloc, World.size_alloc] at this
    exact this)
  go_enter Try.func22, Try.ntmps22
  go_wp2_with fail
  ((with_reducible refine (find_any H.out p).mono ?_); rintro e w1 ⟨i, rfl, hi, hb1⟩)
  have hbelow := Lib.hid (HBL.out.trans (hb1.mono HBL.out.size))
  have H1 := Lib.hid (H.out.below hb1)
  have HI := Lib.hid hi
  have HBr1 := Lib.hid (HBr.out.below hb1 HBr.out.lt)
  have HBx1 := Lib.hid (HBx.out.below hb1 HBx.out.lt)
  have hsz := HBr1.out.lt
  have hset := Lib.hid (fun w2 x y z => three_sets (w := w) (w2 := w2) (n := w.heap.size + 1 + 1) (by omega) x y z)
  have y0 := HBr1.out.cell 0
  have y1 := HBr1.out.cell 1
  have y2 := HBr1.out.cell 2
  have q0 := HBr1.out.frozen 0
  have q1 := HBr1.out.frozen 1
  have q2 := HBr1.out.frozen 2
  simp only [List.getElem?_cons_zero, List.getElem?_cons_succ] at y0 y1 y2
  clear hb1 hi
  by_cases h0 : whyC s p = 0
  · obtain rfl := HI.out h0
    obtain ⟨g, cap, hvc, f2, hpl, hle, hgl, hbl, hfz, c2, c3, c4, c5, c6⟩ := H1.out.at h0
    subst hvc
    have hgw : g < w.heap.size := row_lt HI0.out.cells rfl
    have hbw : b < w.heap.size := HI0.out.blk.lt
    have hrd := HN.out.cl h0
    have H0 := Lib.hid h0
    have hfin : ∀ (w2 w3 : World) (s' : MS), RefIs w2 b vl vs (.slice (some ⟨g, 0, none⟩) (rcs 0 s).length cap) s' → Ch O w w2 → Ch (fun k => w.heap.size ≤ k) w2 w3 → RefIs w3 b vl vs (.slice (some ⟨g, 0, none⟩) (rcs 0 s).length cap) s' ∧ Ch O w w3 :=
      fun w2 w3 s' h1 h2 h3 => ⟨HI0.out.new h1 h3, h2.trans h3 (fun i hi hk => by omega)⟩
    have HF := Lib.hid hfin
    rw [h0]
    have hpl0 : (0 : Int) ≤ (placeR s p : Int) := by omega
    clear h0 hfin
    have HX5 := Lib.hid (H1.out.put H0.out 5 (by omega) (.int .i64 ((clOf s p).r - 1)) ⟨(clOf s p).v, (clOf s p).r - 1, (clOf s p).w⟩ rfl)
    have HX6 := Lib.hid (H1.out.put H0.out 6 (by omega) (.bool false) ⟨(clOf s p).v, (clOf s p).r, false⟩ rfl)
    have z5 := hfz (placeR s p * 7 + 5)
    have z6 := hfz (placeR s p * 7 + 6)
    have z2 := hfz (placeR s p * 7 + 2)
    have z3 := hfz (placeR s p * 7 + 3)
    have z4 := hfz (placeR s p * 7 + 4)
    clear hfz
    have HP3 := Lib.hid (fun W (h : RefIs W b vl vs (.slice (some ⟨g, 0, none⟩) (rcs 0 s).length cap) (upd s p ⟨(clOf s p).v, (clOf s p).r, false⟩)) => h.put3 H0.out (needV x))
    obtain ⟨P, hP⟩ : ∃ P, P = placeR s p := ⟨_, rfl⟩
    rw [← hP] at hpl hpl0 c2 c3 c4 c5 c6 z2 z3 z4 z5 z6 HX5 HX6 HP3 ⊢
    have HPP := Lib.hid hP
    clear hP
    obtain ⟨L, hL⟩ : ∃ L, L = (rcs 0 s).length := ⟨_, rfl⟩
    rw [← hL] at f2 hpl hle HF HX5 HX6 HP3 H1 HO
    clear hL
    clear z2 z3 z4 z6 HX6 HP3 c6
    have HRR := Lib.hid (rend_r (x := x) H0.out)
    by_cases hr : (clOf s p).r = 0
    · have HR := Lib.hid (HRR.out.1 hr)
      rw [hr] at c5
      clear hr hrd HX5
      go_wp2
      refine bodyPost_ret (v := .tuple #[vV v0, .int .i64 6]) (by simp [results, Try.results22, go_sem, vV, v0, y0, y1, y2]) rfl ?_
      have h1 := HF.out _ _ _ H1.out (Ch.of_below hbelow.out) (hset.out w1 (.int .i64 0) (.int .i64 0) (.int .i64 0))
      exact RPost.mk HO.out h1.1 h1.2 (by rw [HR.out.1, HR.out.2.2]) HR.out.2.1
    · have hd : ((clOf s p).r == 0) = false := by simpa using hr
      have r0 : 1 ≤ (clOf s p).r := by omega
      have r1 : (clOf s p).r ≤ 1000000 := by omega
      have hcs : Ch O w (w1.setCell ⟨g, P * 7 + 5, none⟩ (.int .i64 ((clOf s p).r - 1))) := (Ch.of_below hbelow.out).set _ (.inl (HO.out.c g rfl)) _
      have HCS := Lib.hid hcs
      have HX5' := HX5
      clear hcs HX5
      by_cases hk : (clOf s p).v.kind = 0
      · have HR := Lib.hid (HRR.out.2.1 hr hk)
        rw [hk] at c2
        clear hr hk hrd
        go_wp2
        go_still_tail 16, (by kernel_rfl)
        go_wp2
        refine bodyPost_ret (v := .tuple #[vV v0, .int .i64 4]) (by simp [results, Try.results22, go_sem, vV, v0, y0, y1, y2]) rfl ?_
        have h1 := HF.out _ _ _ HX5'.out HCS.out (hset.out _ (.int .i64 0) (.int .i64 0) (.int .i64 0))
        exact RPost.mk HO.out (h1.1.below ((Below.refl _ _).drew)) (h1.2.trans (O' := O) (Ch.of_below ((Below.refl _ _).drew)) (fun _ _ h => h)) (by rw [HR.out.1, HR.out.2.2]) HR.out.2.1
      · have HR := Lib.hid (HRR.out.2.2 hr hk)
        have hd2 : ((clOf s p).v.kind == 0) = false := by simpa using hk
        clear hr hk hrd
        go_wp2
        go_still_tail 16, (by kernel_rfl)
        go_wp2
        refine bodyPost_ret (v := .tuple #[vV (clOf s p).v, .int .i64 0]) (by simp [results, Try.results22, go_sem, vV, y0, y1, y2]) rfl ?_
        have h1 := HF.out _ _ _ HX5'.out HCS.out (hset.out _ (.int .i64 (clOf s p).v.kind) (.int .i64 (clOf s p).v.n) (.int .i64 (clOf s p).v.block))
        exact RPost.mk HO.out (h1.1.below ((Below.refl _ _).drew)) (h1.2.trans (O' := O) (Ch.of_below ((Below.refl _ _).drew)) (fun _ _ h => h)) (by rw [HR.out.1, HR.out.2.2]) HR.out.2.1
  · have hd : (whyC s p != 0) = true := by simpa using h0
    have HR := Lib.hid (endW_no (wr := false) (v := x) rfl h0)
    clear h0
    obtain ⟨c, hc⟩ : ∃ c, c = whyC s p := ⟨_, rfl⟩
    rw [← hc] at HR hd ⊢
    clear hc
    go_wp2
    refine bodyPost_ret (v := .tuple #[vV v0, .int .i64 c]) (by simp [results, Try.results22, go_sem, vV, v0, y0, y1, y2]) rfl ?_
    have h1 := (HI0.out.new H1.out (hset.out w1 (.int .i64 0) (.int .i64 0) (.int .i64 0)))
    exact RPost.mk HO.out h1 ((Ch.of_below hbelow.out).trans (hset.out w1 _ _ _) (fun i hi hk => by omega)) (by rw [HR.out.1, HR.out.2.2]) HR.out.2.1

end Go.Proofs.Ytnjndggdnmboeaa
