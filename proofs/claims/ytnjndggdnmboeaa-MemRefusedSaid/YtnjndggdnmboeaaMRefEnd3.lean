/- The contract of lychgateref06.End, where it writes. -/
import Derived.Test.YtnjndggdnmboeaaMRefEnd2
import Derived.Deep.RegionHeld3
import Derived.Deep.RegionWith
namespace Go.Proofs.Ytnjndggdnmboeaa
open Go.RowKit

set_option maxRecDepth 100000 in
set_option maxHeartbeats 4000000 in
theorem refEndW_any {w : World} {b : Nat} {s : MS} {O : Nat → Prop} (hh : RefAt w b s O) (p : MV) (x : MV) {N : Int} (hN : Rd s N) (_hN1 : N ≤ 1000000) :
    Calls Try.prog 22 #[.pointer (some ⟨b, 0, none⟩), .agg #[.int .i64 p.kind, .int .i64 p.n, .int .i64 p.block], .bool true, .agg #[.int .i64 x.kind, .int .i64 x.n, .int .i64 x.block]] w (RPost b (endS s p true x) (.tuple #[vV (endV s p true), .int .i64 (endW s p true)]) O w) := by
  obtain ⟨vl, vs, vc, h, hO⟩ := hh.open
  clear hh
  have hbl : Below w.heap.size w (rendW0 w p x) := (((Below.refl w.heap.size w).alloc (Nat.le_refl _) _).alloc (by simp) _).alloc (by simp; omega) _
  have H := Lib.hid (h.below hbl)
  have HBL := Lib.hid hbl
  have HI0 := Lib.hid h
  have HO := Lib.hid hO
  have HN := Lib.hid hN
  clear h hbl hO hN
  have HBx := Lib.hid (show Blk (rendW0 w p x) (w.heap.size + 1) [.int .i64 x.kind, .int .i64 x.n, .int .i64 x.block] 61 by
    have := (Blk.new (w.alloc (.cells #[.int .i64 p.kind, .int .i64 p.n, .int .i64 p.block] 61)) [.int .i64 x.kind, .int .i64 x.n, .int .i64 x.block] 61).alloc (.cells #[.int .i64 0, .int .i64 0, .int .i64 0] 61)
    rw [World.size_alloc] at this
    exact this)
  have HBr := Lib.hid (show Blk (rendW0 w p x) (w.heap.size + 1 + 1) [.int .i64 0, .int .i64 0, .int .i64 0] 61 by
    have := Blk.new ((w.alloc (.cells #[.int .i64 p.kind, .int .i64 p.n, .int .i64 p.block] 61)).alloc (.cells #[.int .i64 x.kind, .int .i64 x.n, .int .i64 x.block] 61)) [.int .i64 0, .int .i64 0, .int .i64 0] 61
    rw [World.size_alloc, World.size_alloc] at this
    exact this)
  go_enter Try.func22, Try.ntmps22
  go_wp2_with fail
  ((with_reducible refine (find_any H.out p).mono ?_); rintro e w1 ⟨i, rfl, hi, hb1⟩)
  have hbelow := Lib.hid (HBL.out.trans (hb1.mono HBL.out.size))
  have H1 := Lib.hid (H.out.below hb1)
  have HI := Lib.hid hi
  have HBr1 := Lib.hid (HBr.out.below hb1 HBr.out.lt)
  have HBx1 := Lib.hid (HBx.out.below hb1 HBx.out.lt)
  have hsz := HBr1.out.lt
  have hset := Lib.hid (fun w2 x y z => three_sets (w := w) (w2 := w2) (n := w.heap.size + 1 + 1) (by omega) x y z)
  have y0 := HBr1.out.cell 0
  have y1 := HBr1.out.cell 1
  have y2 := HBr1.out.cell 2
  have q0 := HBr1.out.frozen 0
  have q1 := HBr1.out.frozen 1
  have q2 := HBr1.out.frozen 2
  simp only [List.getElem?_cons_zero, List.getElem?_cons_succ] at y0 y1 y2
  clear hb1 hi
  by_cases h0 : whyC s p = 0
  · obtain rfl := HI.out h0
    obtain ⟨g, cap, hvc, f2, hpl, hle, hgl, hbl, hfz, c2, c3, c4, c5, c6⟩ := H1.out.at h0
    subst hvc
    have hgw : g < w.heap.size := row_lt HI0.out.cells rfl
    have hbw : b < w.heap.size := HI0.out.blk.lt
    have hrd := HN.out.cl h0
    have H0 := Lib.hid h0
    have hfin : ∀ (w2 w3 : World) (s' : MS), RefIs w2 b vl vs (.slice (some ⟨g, 0, none⟩) (rcs 0 s).length cap) s' → Ch O w w2 → Ch (fun k => w.heap.size ≤ k) w2 w3 → RefIs w3 b vl vs (.slice (some ⟨g, 0, none⟩) (rcs 0 s).length cap) s' ∧ Ch O w w3 :=
      fun w2 w3 s' h1 h2 h3 => ⟨HI0.out.new h1 h3, h2.trans h3 (fun i hi hk => by omega)⟩
    have HF := Lib.hid hfin
    rw [h0]
    have hpl0 : (0 : Int) ≤ (placeR s p : Int) := by omega
    clear h0 hfin
    have HX5 := Lib.hid (H1.out.put H0.out 5 (by omega) (.int .i64 ((clOf s p).r - 1)) ⟨(clOf s p).v, (clOf s p).r - 1, (clOf s p).w⟩ rfl)
    have HX6 := Lib.hid (H1.out.put H0.out 6 (by omega) (.bool false) ⟨(clOf s p).v, (clOf s p).r, false⟩ rfl)
    have z5 := hfz (placeR s p * 7 + 5)
    have z6 := hfz (placeR s p * 7 + 6)
    have z2 := hfz (placeR s p * 7 + 2)
    have z3 := hfz (placeR s p * 7 + 3)
    have z4 := hfz (placeR s p * 7 + 4)
    clear hfz
    have HP3 := Lib.hid (fun W (h : RefIs W b vl vs (.slice (some ⟨g, 0, none⟩) (rcs 0 s).length cap) (upd s p ⟨(clOf s p).v, (clOf s p).r, false⟩)) => h.put3 H0.out (needV x))
    obtain ⟨P, hP⟩ : ∃ P, P = placeR s p := ⟨_, rfl⟩
    rw [← hP] at hpl hpl0 c2 c3 c4 c5 c6 z2 z3 z4 z5 z6 HX5 HX6 HP3 ⊢
    have HPP := Lib.hid hP
    clear hP
    obtain ⟨L, hL⟩ : ∃ L, L = (rcs 0 s).length := ⟨_, rfl⟩
    rw [← hL] at f2 hpl hle HF HX5 HX6 HP3 H1 HO
    clear hL
    clear z5 HX5 c5 hrd
    have HRR := Lib.hid (rend_w (x := x) H0.out)
    cases hw : (clOf s p).w
    · have HR := Lib.hid (HRR.out.1 hw)
      rw [hw] at c6
      clear hw HX6
      go_wp2
      refine bodyPost_ret (v := .tuple #[vV v0, .int .i64 6]) (by simp [results, Try.results22, go_sem, vV, v0, y0, y1, y2]) rfl ?_
      have h1 := HF.out _ _ _ H1.out (Ch.of_below hbelow.out) (hset.out w1 (.int .i64 0) (.int .i64 0) (.int .i64 0))
      exact RPost.mk HO.out h1.1 h1.2 (by rw [HR.out.1, HR.out.2.2]) HR.out.2.1
    · have HR := Lib.hid (HRR.out.2 hw)
      rw [hw] at c6
      clear hw
      have hx0 : w1.cell? ⟨w.heap.size + 1, 0, none⟩ = some (.int .i64 x.kind) := HBx1.out.cell 0
      have hx1 : w1.cell? ⟨w.heap.size + 1, 1, none⟩ = some (.int .i64 x.n) := HBx1.out.cell 1
      have hx2 : w1.cell? ⟨w.heap.size + 1, 2, none⟩ = some (.int .i64 x.block) := HBx1.out.cell 2
      have hxl := HBx1.out.lt
      have hcs : Ch O w (w1.setCell ⟨g, P * 7 + 6, none⟩ (.bool false)) := (Ch.of_below hbelow.out).set _ (.inl (HO.out.c g rfl)) _
      have HCS := Lib.hid hcs
      have hBr6 : Blk (w1.setCell ⟨g, P * 7 + 6, none⟩ (.bool false)) (w.heap.size + 1 + 1) [.int .i64 0, .int .i64 0, .int .i64 0] 61 := HBr1.out.far (by show _ ≠ g; omega) _
      have HBr6 := Lib.hid hBr6
      have hgb := (H1.out.nc g rfl).1
      have K0 := Lib.hid (wend_first (b := b) (g := g) (n := w.heap.size + 1) (P := P) (u := .bool false) (fun e => hgb e.symm) (by omega) f2 hx0 hx1 hx2)
      have hpl := plain_any x
      unfold vV at hpl
      clear hcs hBr6
      go_wp2
      go_region_held3 (fun w' => w'.cell? ⟨b, 2, none⟩ = some (.slice (some ⟨g, 0, none⟩) L cap) ∧ w'.cell? ⟨w.heap.size + 1, 0, none⟩ = some (.int .i64 x.kind) ∧ w'.cell? ⟨w.heap.size + 1, 1, none⟩ = some (.int .i64 x.n) ∧ w'.cell? ⟨w.heap.size + 1, 2, none⟩ = some (.int .i64 x.block))
        (first | exact KS.out | exact K0.out | exact wend_store KS.out (fun e => hgb e.symm) (by omega) | go_keep)
        ((go_at_call 37; refine (hpl _).mono ?_; rintro e w2 ⟨rfl, hb2'⟩; have hb2 := below_undrew hb2'; have HW2 := Lib.hid (wend_call HX6.out HBr6.out HCS.out hb2 (by simp; omega) hgw); have KS := Lib.hid (wend_keep hb2 (b := b) (g := g) (n := w.heap.size + 1) (P := P) (by simp; omega) (by simp; omega) (by omega) (by omega) f2 hx0 hx1 hx2); obtain ⟨d2, d3, d4, e2, e3, e4, gl2⟩ := wend_cells HW2.out.1 H0.out HPP.out; have ml2 := HW2.out.2.1.lt; clear hb2 hb2'))
      have y0 := HW2.out.2.1.cell 0
      have y1 := HW2.out.2.1.cell 1
      have y2 := HW2.out.2.1.cell 2
      have q0 := HW2.out.2.1.frozen 0
      have q1 := HW2.out.2.1.frozen 1
      have q2 := HW2.out.2.1.frozen 2
      simp only [List.getElem?_cons_zero, List.getElem?_cons_succ] at y0 y1 y2
      clear K0 KS
      go_wp2
      refine bodyPost_ret (v := .tuple #[vV v0, .int .i64 0]) (by simp [results, Try.results22, go_sem, vV, v0, y0, y1, y2]) rfl ?_
      have h1 := HF.out _ _ _ (HP3.out _ HW2.out.1) (((HW2.out.2.2.set ⟨g, P * 7 + 2, none⟩ (.inl (HO.out.c g rfl)) _).set ⟨g, P * 7 + 3, none⟩ (.inl (HO.out.c g rfl)) _).set ⟨g, P * 7 + 4, none⟩ (.inl (HO.out.c g rfl)) _) (hset.out _ (.int .i64 0) (.int .i64 0) (.int .i64 0))
      exact RPost.mk HO.out h1.1 h1.2 (by rw [HR.out.1, HR.out.2.2]) HR.out.2.1
  · have hd : (whyC s p != 0) = true := by simpa using h0
    have HR := Lib.hid (endW_no (wr := true) (v := x) rfl h0)
    clear h0
    obtain ⟨c, hc⟩ : ∃ c, c = whyC s p := ⟨_, rfl⟩
    rw [← hc] at HR hd ⊢
    clear hc
    go_wp2
    refine bodyPost_ret (v := .tuple #[vV v0, .int .i64 c]) (by simp [results, Try.results22, go_sem, vV, v0, y0, y1, y2]) rfl ?_
    have h1 := (HI0.out.new H1.out (hset.out w1 (.int .i64 0) (.int .i64 0) (.int .i64 0)))
    exact RPost.mk HO.out h1 ((Ch.of_below hbelow.out).trans (hset.out w1 _ _ _) (fun i hi hk => by omega)) (by rw [HR.out.1, HR.out.2.2]) HR.out.2.1

end Go.Proofs.Ytnjndggdnmboeaa
