/- The contract of mem.Memory's End. -/
import Derived.Test.YtnjndggdnmboeaaMOps
namespace Go.Proofs.Ytnjndggdnmboeaa
open Go.RowKit

theorem MPost.mk {b : Nat} {v : Value} {gs : List Nat} {O : Nat → Prop} {w w' : World} {s : MS} {val val' : Value} (h : Own b v gs O) (hm : MemIs w' b v gs s) (hc : Ch O w w') (hv : val = val') : MPost b s val' O w (.returned val) w' := by
  subst hv
  exact ⟨rfl, h.at hm fun k hk => .inl hk, hc⟩
/- What is newer than a world in which the memory was is none of it. -/
theorem MemIs.new {w0 w w' : World} {b : Nat} {v : Value} {gs : List Nat} {s0 s : MS} (h0 : MemIs w0 b v gs s0) (h : MemIs w b v gs s) (hc : Ch (fun k => w0.heap.size ≤ k) w w') : MemIs w' b v gs s := by
  have h1 := h0.blk.lt
  refine h.ch hc (by omega) (fun g hg => ?_) (fun g hg => ?_)
  · have := row_lt h0.row hg
    omega
  · have := h0.lt g hg
    omega

theorem endW_no {s : MS} {p : MV} {wr : Bool} {v : MV} {c : Int} (h : whyC s p = c) (hc : c ≠ 0) : endW s p wr = c ∧ endS s p wr v = s ∧ endV s p wr = v0 := by
  have h1 : endW s p wr = c := by unfold endW; rw [if_pos (by rw [h]; exact hc), h]
  refine ⟨h1, ?_, ?_⟩
  · unfold endS
    rw [if_neg]
    rw [h1, h]
    omega
  · unfold endV
    rw [if_neg]
    rw [h1]
    exact fun h => hc h.1
theorem endW_write {s : MS} {p : MV} {v : MV} (h : whyC s p = 0) : endW s p true = endWriteW (clOf s p).w ∧ endS s p true v = upd s p (endWriteC (clOf s p).w v (clOf s p)) ∧ endV s p true = v0 := by
  have h1 : endW s p true = endWriteW (clOf s p).w := by
    unfold endW endWriteW
    rw [if_neg (by omega), if_pos rfl]
  refine ⟨h1, ?_, ?_⟩
  · unfold endS
    rw [h1]
    unfold endWriteW endWriteC endC
    cases hz : (clOf s p).w
    · simp [upd_self h]
    · simp
  · unfold endV
    rw [if_neg (by simp)]
theorem endW_read {s : MS} {p : MV} {v : MV} (h : whyC s p = 0) : endW s p false = endReadW (clOf s p) ∧ endS s p false v = upd s p (endReadC (clOf s p)) ∧ endV s p false = endReadV (clOf s p) := by
  have h1 : endW s p false = endReadW (clOf s p) := by
    unfold endW endReadW
    rw [if_neg (by omega), if_neg (by simp)]
  refine ⟨h1, ?_, ?_⟩
  · unfold endS
    rw [h1]
    unfold endReadW endReadC endC
    by_cases h2 : (clOf s p).r = 0
    · simp [h2, upd_self h]
    · by_cases h3 : (clOf s p).v.kind = 0
      · simp [h2, h3, h]
      · simp [h2, h3]
  · unfold endV endReadV
    rw [h1]
    simp

/- The beginning of End: two values are put into boxes, the result is laid. -/
abbrev endW0 (w : World) (p v : MV) : World := ((w.alloc (.cells #[.int .i64 p.kind, .int .i64 p.n, .int .i64 p.block] 34)).alloc (.cells #[.int .i64 v.kind, .int .i64 v.n, .int .i64 v.block] 34)).alloc (.cells #[.int .i64 0, .int .i64 0, .int .i64 0] 34)

theorem three_sets {w w2 : World} {n : Nat} (hn : w.heap.size ≤ n) (x y z : Value) : Ch (fun k => w.heap.size ≤ k) w2 (((w2.setCell ⟨n, 0, none⟩ x).setCell ⟨n, 1, none⟩ y).setCell ⟨n, 2, none⟩ z) :=
  (((Ch.refl _ _).set _ (.inl hn) _).set _ (.inl hn) _).set _ (.inl hn) _

set_option maxRecDepth 100000 in
set_option maxHeartbeats 4000000 in
theorem end_any {w : World} {b : Nat} {s : MS} {O : Nat → Prop} (h0 : MemAt w b s O) (p : MV) (wr : Bool) (x : MV) {N : Int} (hN : Rd s N) (hN1 : N ≤ 1000000) :
    Calls Try.prog 13 #[.pointer (some ⟨b, 0, none⟩), .agg #[.int .i64 p.kind, .int .i64 p.n, .int .i64 p.block], .bool wr, .agg #[.int .i64 x.kind, .int .i64 x.n, .int .i64 x.block]] w (MPost b (endS s p wr x) (.tuple #[vV (endV s p wr), .int .i64 (endW s p wr)]) O w) := by
  obtain ⟨v, gs, h, hO⟩ := h0.open
  clear h0
  have hbl : Below w.heap.size w (endW0 w p x) := (((Below.refl w.heap.size w).alloc (Nat.le_refl _) _).alloc (by simp) _).alloc (by simp; omega) _
  have H := Lib.hid (h.below hbl)
  have HBL := Lib.hid hbl
  have HI := Lib.hid h
  have hb0 : b < w.heap.size := h.blk.lt
  clear h hbl
  have HO := Lib.hid hO
  have HN := Lib.hid hN
  clear hO hN
  have HBx := Lib.hid (show Blk (endW0 w p x) (w.heap.size + 1) [.int .i64 x.kind, .int .i64 x.n, .int .i64 x.block] 34 by
    have := (Blk.new (w.alloc (.cells #[.int .i64 p.kind, .int .i64 p.n, .int .i64 p.block] 34)) [.int .i64 x.kind, .int .i64 x.n, .int .i64 x.block] 34).alloc (.cells #[.int .i64 0, .int .i64 0, .int .i64 0] 34)
    rw [World.size_alloc] at this
    exact this)
  have HBr := Lib.hid (show Blk (endW0 w p x) (w.heap.size + 1 + 1) [.int .i64 0, .int .i64 0, .int .i64 0] 34 by
    have := Blk.new ((w.alloc (.cells #[.int .i64 p.kind, .int .i64 p.n, .int .i64 p.block] 34)).alloc (.cells #[.int .i64 x.kind, .int .i64 x.n, .int .i64 x.block] 34)) [.int .i64 0, .int .i64 0, .int .i64 0] 34
    rw [World.size_alloc, World.size_alloc] at this
    exact this)
  have hgl : ∀ g ∈ gs, g < w.heap.size := HI.out.lt
  have hsz : (endW0 w p x).heap.size = w.heap.size + 1 + 1 + 1 := by simp
  cases wr
  · go_enter Try.func13, Try.ntmps13
    go_wp2_with fail
    ((with_reducible refine (cellOf_any H.out p).mono ?_); rintro e w1 ⟨A, rfl, hA, hb1⟩)
    have HA := Lib.hid hA
    have hbelow := Lib.hid (HBL.out.trans (hb1.mono HBL.out.size))
    have H1 := Lib.hid (H.out.below hb1)
    have HBr1 := Lib.hid (HBr.out.below hb1 HBr.out.lt)
    have HBx1 := Lib.hid (HBx.out.below hb1 HBx.out.lt)
    have hs1 := hb1.size
    clear hA hb1
    by_cases h0 : whyC s p = 0
    · obtain ⟨g, hg, rfl⟩ := HA.out h0
      obtain ⟨hB, hc⟩ := H1.out.cellRow h0 hg
      have hgw : g < w.heap.size := hgl g (List.mem_of_getElem? hg)
      have hr := HN.out.cl h0
      have HG := Lib.hid hg
      have H0 := Lib.hid h0
      have HC := Lib.hid (endW_read (v := x) h0)
      have hcall := endRead_any hB hc hr.1 (by omega)
      rw [h0]
      clear hB hc hg h0 hr
      unfold vV at hcall
      go_wp2_with fail
      ((with_reducible refine hcall.mono ?_); rintro e w2 ⟨rfl, hk2, hc2⟩)
      have HM2 := Lib.hid (H1.out.upd H0.out HG.out hk2 hc2)
      have HC2 := Lib.hid ((Ch.of_below hbelow.out).trans (O := O) hc2 (fun i _ e => by subst e; exact HO.out.gs _ (List.mem_of_getElem? HG.out)))
      have HBr2 := Lib.hid (HBr1.out.ch hc2 (by omega))
      clear hk2 hc2 hcall
      have y0 := HBr2.out.cell 0
      have y1 := HBr2.out.cell 1
      have y2 := HBr2.out.cell 2
      have q0 := HBr2.out.frozen 0
      have q1 := HBr2.out.frozen 1
      have q2 := HBr2.out.frozen 2
      have hlt2 := HBr2.out.lt
      simp only [List.getElem?_cons_zero, List.getElem?_cons_succ] at y0 y1 y2
      skip
      go_wp2
      refine bodyPost_ret (v := .tuple #[vV (endReadV (clOf s p)), .int .i64 (endReadW (clOf s p))]) (by simp [results, Try.results13, go_sem, vV, y0, y1, y2]) rfl ?_
      rw [HC.out.1, HC.out.2.1, HC.out.2.2]
      have hset := three_sets (w := w) (w2 := w2) (n := w.heap.size + 1 + 1) (by omega)
      exact MPost.mk HO.out (HI.out.new HM2.out (hset _ _ _)) (HC2.out.trans (hset _ _ _) (fun i hi hk => by omega)) rfl
    · have hd : (whyC s p != 0) = true := by simpa using h0
      have HR := Lib.hid (endW_no (wr := false) (v := x) rfl h0)
      have H0 := Lib.hid h0
      have HBr2 := HBr1
      have y0 := HBr2.out.cell 0
      have y1 := HBr2.out.cell 1
      have y2 := HBr2.out.cell 2
      have q0 := HBr2.out.frozen 0
      have q1 := HBr2.out.frozen 1
      have q2 := HBr2.out.frozen 2
      have hlt2 := HBr2.out.lt
      simp only [List.getElem?_cons_zero, List.getElem?_cons_succ] at y0 y1 y2
      clear h0
      generalize whyC s p = c at *
      go_wp2
      refine bodyPost_ret (v := .tuple #[vV v0, .int .i64 c]) (by simp [results, Try.results13, go_sem, vV, v0, y0, y1, y2]) rfl ?_
      rw [HR.out.1, HR.out.2.1, HR.out.2.2]
      have hset := three_sets (w := w) (w2 := w1) (n := w.heap.size + 1 + 1) (by omega)
      exact MPost.mk HO.out (HI.out.new H1.out (hset _ _ _)) ((Ch.of_below hbelow.out).trans (hset _ _ _) (fun i hi hk => by omega)) rfl
  · go_enter Try.func13, Try.ntmps13
    go_wp2_with fail
    ((with_reducible refine (cellOf_any H.out p).mono ?_); rintro e w1 ⟨A, rfl, hA, hb1⟩)
    have HA := Lib.hid hA
    have hbelow := Lib.hid (HBL.out.trans (hb1.mono HBL.out.size))
    have H1 := Lib.hid (H.out.below hb1)
    have HBr1 := Lib.hid (HBr.out.below hb1 HBr.out.lt)
    have HBx1 := Lib.hid (HBx.out.below hb1 HBx.out.lt)
    have hs1 := hb1.size
    clear hA hb1
    by_cases h0 : whyC s p = 0
    · obtain ⟨g, hg, rfl⟩ := HA.out h0
      obtain ⟨hB, hc⟩ := H1.out.cellRow h0 hg
      have hgw : g < w.heap.size := hgl g (List.mem_of_getElem? hg)
      have hr := HN.out.cl h0
      have HG := Lib.hid hg
      have H0 := Lib.hid h0
      have HC := Lib.hid (endW_write (v := x) h0)
      have hcall := endWrite_any hB hc x
      rw [h0]
      clear hB hc hg h0 hr
      have x0 := HBx1.out.cell 0
      have x1 := HBx1.out.cell 1
      have x2 := HBx1.out.cell 2
      simp only [List.getElem?_cons_zero, List.getElem?_cons_succ] at x0 x1 x2
      go_wp2_with fail
      ((with_reducible refine hcall.mono ?_); rintro e w2 ⟨rfl, hk2, hc2⟩)
      have HM2 := Lib.hid (H1.out.upd H0.out HG.out hk2 hc2)
      have HC2 := Lib.hid ((Ch.of_below hbelow.out).trans (O := O) hc2 (fun i _ e => by subst e; exact HO.out.gs _ (List.mem_of_getElem? HG.out)))
      have HBr2 := Lib.hid (HBr1.out.ch hc2 (by omega))
      clear hk2 hc2 hcall
      have y0 := HBr2.out.cell 0
      have y1 := HBr2.out.cell 1
      have y2 := HBr2.out.cell 2
      have q0 := HBr2.out.frozen 0
      have q1 := HBr2.out.frozen 1
      have q2 := HBr2.out.frozen 2
      have hlt2 := HBr2.out.lt
      simp only [List.getElem?_cons_zero, List.getElem?_cons_succ] at y0 y1 y2
      clear x0 x1 x2
      go_wp2
      refine bodyPost_ret (v := .tuple #[vV v0, .int .i64 (endWriteW (clOf s p).w)]) (by simp [results, Try.results13, go_sem, vV, v0, y0, y1, y2]) rfl ?_
      rw [HC.out.1, HC.out.2.1, HC.out.2.2]
      have hset := three_sets (w := w) (w2 := w2) (n := w.heap.size + 1 + 1) (by omega)
      exact MPost.mk HO.out (HI.out.new HM2.out (hset _ _ _)) (HC2.out.trans (hset _ _ _) (fun i hi hk => by omega)) rfl
    · have hd : (whyC s p != 0) = true := by simpa using h0
      have HR := Lib.hid (endW_no (wr := true) (v := x) rfl h0)
      have H0 := Lib.hid h0
      have HBr2 := HBr1
      have y0 := HBr2.out.cell 0
      have y1 := HBr2.out.cell 1
      have y2 := HBr2.out.cell 2
      have q0 := HBr2.out.frozen 0
      have q1 := HBr2.out.frozen 1
      have q2 := HBr2.out.frozen 2
      have hlt2 := HBr2.out.lt
      simp only [List.getElem?_cons_zero, List.getElem?_cons_succ] at y0 y1 y2
      clear h0
      generalize whyC s p = c at *
      go_wp2
      refine bodyPost_ret (v := .tuple #[vV v0, .int .i64 c]) (by simp [results, Try.results13, go_sem, vV, v0, y0, y1, y2]) rfl ?_
      rw [HR.out.1, HR.out.2.1, HR.out.2.2]
      have hset := three_sets (w := w) (w2 := w1) (n := w.heap.size + 1 + 1) (by omega)
      exact MPost.mk HO.out (HI.out.new H1.out (hset _ _ _)) ((Ch.of_below hbelow.out).trans (hset _ _ _) (fun i hi hk => by omega)) rfl

end Go.Proofs.Ytnjndggdnmboeaa
