/- The contract of lychgateref06.Free. -/
import Derived.Test.YtnjndggdnmboeaaMRefOps2
import Derived.Test.YtnjndggdnmboeaaMOps4
import Derived.StillTailTactics
namespace Go.Proofs.Ytnjndggdnmboeaa
open Go.RowKit

theorem lRow_free {s : MS} {k : Nat} {a : MB} (h : s[k]? = some a) : (lRow s).set k (.bool false) = lRow (s.set k ⟨false, a.cells⟩) ∧ zRowS (s.set k ⟨false, a.cells⟩) = zRowS s := by
  unfold lRow zRowS
  constructor
  · rw [List.map_set]
  · rw [List.map_set]
    refine set_same ?_
    rw [List.getElem?_map, h]
    rfl
theorem RefIs.free {w : World} {b g cap k : Nat} {vs vc : Value} {s : MS} (h : RefIs w b (.slice (some ⟨g, 0, none⟩) s.length cap) vs vc s) {a : MB} (ha : s[k]? = some a) : RefIs (w.setCell ⟨g, k, none⟩ (.bool false)) b (.slice (some ⟨g, 0, none⟩) s.length cap) vs vc (s.set k ⟨false, a.cells⟩) := by
  have e1 : usedS (s.set k ⟨false, a.cells⟩) = usedS s := usedS_set _ _ _ fun x hx => by rw [ha] at hx; cases hx; rfl
  have hn := h.nl g rfl
  have hf := lRow_free ha
  refine ⟨?_, ?_, ?_, ?_, h.nl, h.ns, h.nc, by rw [e1]; exact h.most⟩
  · rw [e1]
    exact h.blk.far (by show b ≠ g; exact fun e => hn.1 e.symm) _
  · have := (h.live.stored k (.bool false)).1
    rw [hf.1] at this
    rw [List.length_set]
    exact this
  · rw [List.length_set, hf.2]
    exact row_same h.sizes fun g' hg' => Below.heap_setCell _ _ _ _ (by show g' ≠ g; rintro rfl; exact hn.2.1 hg')
  · rw [rcs_set_live 0 s k a false ha]
    exact row_same h.cells fun g' hg' => Below.heap_setCell _ _ _ _ (by show g' ≠ g; rintro rfl; exact hn.2.2 hg')

def busyAt (p : MV) (e : RC) : Bool := decide ((e.block : Int) = p.block) && busyC e.c
theorem free_none {s : MS} {p : MV} (hb : whyB s p = 0) (hn : p.n = 0) {n : Nat} (hle : (rcs 0 s).length ≤ n) (hno : ∀ x e, x < n → (rcs 0 s)[x]? = some e → busyAt p e = false) : freeW s p = 0 := by
  refine freeW_fine hb hn ?_
  rw [← rcs_busy hb, List.any_eq_false]
  intro e he
  obtain ⟨x, hx, he⟩ := List.getElem_of_mem he
  have := hno x e (by omega) (by rw [List.getElem?_eq_getElem hx, he])
  unfold busyAt at this
  simp [this]
theorem free_busy {s : MS} {p : MV} (hb : whyB s p = 0) (hn : p.n = 0) {x : Nat} {e : RC} (he : (rcs 0 s)[x]? = some e) (hh : busyAt p e = true) : freeW s p = 6 := by
  refine freeW_race hb hn ?_
  rw [← rcs_busy hb, List.any_eq_true]
  exact ⟨e, List.mem_of_getElem? he, hh⟩

set_option maxRecDepth 100000 in
set_option maxHeartbeats 4000000 in
theorem refFree_any {w : World} {b : Nat} {s : MS} {O : Nat → Prop} (hh : RefAt w b s O) (p : MV) :
    Calls Try.prog 20 #[.pointer (some ⟨b, 0, none⟩), .agg #[.int .i64 p.kind, .int .i64 p.n, .int .i64 p.block]] w (RPost b (freeS s p) (.int .i64 (freeW s p)) O w) := by
  obtain ⟨vl, vs, vc, h, hO⟩ := hh.open
  clear hh
  have H := Lib.hid (h.below ((Below.refl w.heap.size w).alloc (Nat.le_refl _) (.cells #[.int .i64 p.kind, .int .i64 p.n, .int .i64 p.block] 61)))
  have HO := Lib.hid hO
  clear h hO
  go_enter Try.func20, Try.ntmps20
  go_wp2_with fail
  ((with_reducible refine (refLive_any H.out p).mono ?_); rintro e w1 ⟨rfl, hb1⟩)
  have hbelow := Lib.hid (((Below.refl w.heap.size w).alloc (Nat.le_refl _) (.cells #[.int .i64 p.kind, .int .i64 p.n, .int .i64 p.block] 61)).trans (hb1.mono (by simp)))
  have H1 := Lib.hid (H.out.below hb1)
  have HBx := Lib.hid ((Blk.new w [.int .i64 p.kind, .int .i64 p.n, .int .i64 p.block] 61).below hb1 (by simp))
  have x1 := HBx.out.cell 1
  simp only [List.getElem?_cons_zero, List.getElem?_cons_succ] at x1
  have hzw := HBx.out.lt
  clear hb1
  by_cases h0 : whyB s p = 0
  · have H0 := Lib.hid h0
    obtain ⟨Al, cl, As, cs, Ac, cc, hvl, _, hv, f0, _, f2, _, _, _, _, _, l1, l2, _, hle, hlt⟩ := H1.out.facts
    have HV := Lib.hid hv
    have HVL := Lib.hid hvl
    clear hv hvl
    rw [h0]
    clear h0
    by_cases hn : p.n = 0
    · have HNn := Lib.hid hn
      rw [hn] at x1
      clear hn
      go_wp2
      go_loopw [6] (fun i wr => ∃ k : Nat, k ≤ (rcs 0 s).length ∧ i = .int .i64 k ∧ Below w1.heap.size w1 wr ∧ ∀ x e, x < k → (rcs 0 s)[x]? = some e → busyAt p e = false) (fun i _ => (rcs 0 s).length - (intOf i).toNat)
      case atStart => exact ⟨0, by omega, rfl, Below.refl _ _, fun x e hx => by omega⟩
      case round =>
        clear x1
        obtain ⟨k, hk, rfl, hb, hno⟩ := hrel
        have HB := Lib.hid hb
        have HN := Lib.hid hno
        have HBx2 := HBx.out.below hb hzw
        have x2 := HBx2.cell 2
        have xl := HBx2.lt
        simp only [List.getElem?_cons_zero, List.getElem?_cons_succ] at x2
        have f2' := (bcell hb).1 b 2 hlt
        rw [f2] at f2'
        have f0' := (bcell hb).1 b 0 hlt
        rw [f0] at f0'
        have hlt' : b < wr.heap.size := Nat.lt_of_lt_of_le hlt hb.size
        clear hno HBx2
        by_cases hks : k < (rcs 0 s).length
        · obtain ⟨e, he⟩ : ∃ e, (rcs 0 s)[k]? = some e := ⟨_, List.getElem?_eq_getElem hks⟩
          obtain ⟨g, cap, hv, hgl, _, hcell⟩ := (H1.out.below hb).cellAt he
          have ev := HV.out.symm.trans hv
          simp only [Value.slice.injEq, true_and] at ev
          obtain ⟨rfl, rfl⟩ := ev
          have d0 := hcell 0 (by omega)
          have d5 := hcell 5 (by omega)
          have d6 := hcell 6 (by omega)
          simp only [rCells, List.getElem?_cons_zero, List.getElem?_cons_succ, Nat.add_zero] at d0 d5 d6
          have HE := Lib.hid he
          have hk1 : (k : Int) < ((rcs 0 s).length : Int) := by omega
          clear hv he hcell hb
          generalize (rcs 0 s).length = L at *
          have HST : ∀ (hh : busyAt p e = false), Hid (∀ x e', x < k + 1 → (rcs 0 s)[x]? = some e' → busyAt p e' = false) := fun hh => Lib.hid fun x e' hx he' => by
            rcases Nat.lt_or_ge x k with h1 | h1
            · exact HN.out x e' h1 he'
            · obtain rfl : x = k := by omega
              rw [HE.out] at he'
              cases he'
              exact hh
          have HST := Lib.hid HST
          cases t1 : decide ((e.block : Int) = p.block)
          · have q1 : ((e.block : Int) == p.block) = false := by simpa using t1
            have HH := HST.out (by unfold busyAt; rw [t1]; rfl)
            clear t1
            go_wp2
            go_quiet (fail)
            go_wp2
            go_roundw
            case rel => exact ⟨k + 1, by omega, by go_num, below_drewN HB.out _, HH.out⟩
            case measure => simp [intOf]; omega
          · have q1 : ((e.block : Int) == p.block) = true := by simpa using t1
            by_cases hr : 0 < e.c.r
            · have q2 : decide (0 < e.c.r) = true := by simpa using hr
              have HH := Lib.hid (free_busy H0.out HNn.out HE.out (by unfold busyAt busyC; rw [t1, q2]; rfl))
              clear t1 hr
              go_wp2
              go_quiet (fail)
              go_wp2
              go_ret
              exact RPost.mk HO.out (H1.out.below (below_drewN HB.out _)) (Ch.of_below (hbelow.out.trans ((below_drewN HB.out _).mono hbelow.out.size))) (by rw [HH.out]; rfl) (freeS_no HH.out (by decide))
            · have q2 : decide (0 < e.c.r) = false := by simpa using hr
              cases q3 : e.c.w
              · have HH := HST.out (by unfold busyAt busyC; rw [t1, q2, q3]; rfl)
                rw [q3] at d6
                clear t1 hr q3
                go_wp2
                go_quiet (fail)
                go_wp2
                go_roundw
                case rel => exact ⟨k + 1, by omega, by go_num, below_drewN HB.out _, HH.out⟩
                case measure => simp [intOf]; omega
              · have HH := Lib.hid (free_busy H0.out HNn.out HE.out (by unfold busyAt busyC; rw [t1, q2, q3]; rfl))
                rw [q3] at d6
                clear t1 hr q3
                go_wp2
                go_quiet (fail)
                go_wp2
                go_ret
                exact RPost.mk HO.out (H1.out.below (below_drewN HB.out _)) (Ch.of_below (hbelow.out.trans ((below_drewN HB.out _).mono hbelow.out.size))) (by rw [HH.out]; rfl) (freeS_no HH.out (by decide))
        · have HF := Lib.hid (free_none H0.out HNn.out (n := k) (by omega) HN.out)
          obtain ⟨_, kk, hkb, hk1, hks2, hbk, _⟩ := whyB_ok H0.out
          obtain ⟨g, cap, hv, c0, hgl, hfz⟩ := (H1.out.below hb).liveAt hbk
          have ev := HVL.out.symm.trans hv
          simp only [Value.slice.injEq, true_and] at ev
          obtain ⟨rfl, rfl⟩ := ev
          have HVV := Lib.hid hv
          have HBK := Lib.hid hbk
          have HK1 := Lib.hid hk1
          have z0 := hfz kk
          rw [hkb] at x2
          have hi1 : (kk : Int) < (s.length : Int) := by omega
          have hi2 : kk < s.length := hks2
          have i1 : IntKind.i64.wrap ((kk : Int) + 1 - 1) = (kk : Int) := by rw [show (kk : Int) + 1 - 1 = kk by omega]; exact IntWalk.i64_in _ (by omega)
          have i2 : (kk : Int) + 1 - 1 = (kk : Int) := by omega
          have i3 : IntKind.i64.wrap (kk : Int) = (kk : Int) := IntWalk.i64_in _ (by omega)
          have i4 : (kk : Int) ≤ 4096 := by omega
          have i5 : (0 : Int) ≤ (kk : Int) := by omega
          clear hv hbk hk1 hfz hb hkb
          generalize (rcs 0 s).length = L at *
          go_wp2
          go_still_tail 8, (by kernel_rfl)
          go_wp2
          go_ret
          have hR : RefIs wr b (.slice (some ⟨g, 0, none⟩) s.length cl) vs vc s := by
            have := H1.out.below HB.out
            rw [HVV.out] at this
            exact this
          have hOl : O g := HO.out.l g (by rw [HVV.out]; rfl)
          refine RPost.mk (s := s.set (at1 p) ⟨false, (bkOf s p).cells⟩) (vl := .slice (some ⟨g, 0, none⟩) s.length cl) (by have := HO.out; rw [HVV.out] at this; exact this) ?_ ?_ (by rw [HF.out]; rfl) (freeS_yes HF.out)
          · rw [HK1.out]
            exact (hR.free HBK.out).below ((Below.refl _ _).drew)
          · exact ((Ch.of_below (hbelow.out.trans (HB.out.mono hbelow.out.size))).set _ (.inl hOl) _).trans (O' := O) (Ch.of_below ((Below.refl _ _).drew)) (fun _ _ h => h)
    · have hd : (p.n != 0) = true := by simpa using hn
      have HR := Lib.hid (freeW_in H0.out hn)
      clear hn
      go_wp2
      go_ret
      exact RPost.mk HO.out H1.out (Ch.of_below hbelow.out) (by rw [HR.out]; rfl) (freeS_no HR.out (by decide))
  · have hd : (whyB s p != 0) = true := by simpa using h0
    have HR := Lib.hid (freeW_B rfl h0)
    have HS := Lib.hid (freeS_no HR.out h0)
    clear h0
    obtain ⟨c, hc⟩ : ∃ c, c = whyB s p := ⟨_, rfl⟩
    rw [← hc] at HR hd ⊢
    clear hc
    go_wp2
    go_ret
    exact RPost.mk HO.out H1.out (Ch.of_below hbelow.out) (by rw [HR.out]; rfl) HS.out

end Go.Proofs.Ytnjndggdnmboeaa
