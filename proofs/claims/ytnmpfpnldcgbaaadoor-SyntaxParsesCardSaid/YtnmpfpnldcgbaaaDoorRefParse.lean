/- The contract of lychgateref02.Parse: it answers what the plain reader says, in new memory. -/
import Derived.Test.YtnmpfpnldcgbaaaDoorRefKey
import Derived.Test.YtnmpfpnldcgbaaaDoorRefSize
import Derived.Test.YtnmpfpnldcgbaaaDoorWakes2
namespace Go.Proofs.YtnmpfpnldcgbaaaDoor
open Go.RowKit

def RParsePost (r : T × Nat × Int) (w : World) (e : Ending) (w' : World) : Prop :=
  ∃ kv, e = .returned (.tuple #[NodeV r.1 kv, .int .i64 r.2.1, .int .i64 r.2.2]) ∧ KAt 31 w' r.1.kids (fun b => w.heap.size ≤ b) kv ∧ Below w.heap.size w w'

set_option maxRecDepth 100000 in
set_option maxHeartbeats 2000000 in
theorem rparse_lex (s : ByteArray) (w : World) (hs : s.size ≤ maxLen) {p : Nat} {c : Int} (hr : lexAll s = .error (p, c)) :
    Calls Tryd.prog 14 #[.string s] w (RParsePost (parseB s) w) := by
  have HS := Lib.hid hs
  clear hs
  go_enter Tryd.func14, Tryd.ntmps14
  go_wp2_with fail
  refine (refTokens_any s _ HS.out).mono ?_
  intro e w1 hp
  rw [hr] at hp
  obtain ⟨rfl, hb⟩ := hp
  have hcd := lexAll_code hr
  have hne : (c != 0) = true := by rw [bne_iff_ne]; omega
  have HP := Lib.hid (show parseB s = (zeroT, p, c) by unfold parseB; rw [hr])
  have HB := Lib.hid ((Blk.new w zeroNodeCells 31).kp (Kp.of_below (pb := w.heap.size + 1) hb) (by omega))
  have HW := Lib.hid (((Below.refl w.heap.size w).alloc (Nat.le_refl _) _).trans (hb.mono (by simp)))
  clear hb hr hcd
  go_wp2_with ((with_reducible refine at_st 31 (.tmp 2) ?_); refine wpList_store_blk rfl 31 (.tmp 2) (.tmp 23) rfl w.heap.size (nodeCells zeroT (.slice none 0 0)) rfl rfl HB.out Tryd.sizeRef rfl (nodeCells_one _ _ rfl) ?_)
  refine ret_blk3 (cs := nodeCells zeroT (.slice none 0 0)) Tryd.results14 rfl (HB.out.rowSame _) Tryd.underlying31 rfl Tryd.sizeRef rfl rfl rfl ?_
  rw [HP.out]
  exact ⟨.slice none 0 0, rfl, KAt.nil _ _ _, below_setRow HW.out (Nat.le_refl _) _⟩

theorem rrow_of_own {w : World} {base : Nat} {v : Value} {ts : List Tok} (h : w.ownsRow base 85 4 v ts.length (cellsOf ts)) (hn : 0 < ts.length) :
    ∃ g cap, v = .slice (some ⟨g, 0, none⟩) ts.length cap ∧ base ≤ g ∧ g < w.heap.size ∧ ts.length ≤ cap ∧ RowAt w g ts := by
  obtain ⟨g, cap, rfl, hg1, hg2⟩ := h.form hn
  have hcap : ts.length ≤ cap := by
    rcases h.2 with ⟨h0, _⟩ | ⟨g', cap', cur, hv, _, _, hle, _⟩
    · cases h0
    · cases hv; exact hle
  refine ⟨g, cap, rfl, hg1, hg2, hcap, fun i t ht => ?_⟩
  have hi : i < ts.length := (List.getElem?_eq_some_iff.1 ht).1
  have c : ∀ q, q < 4 → w.cell? ⟨g, i * 4 + q, none⟩ = (tokCells t)[q]? := fun q hq => by
    rw [h.cellAt (i * 4 + q) (by omega), cellsOf_get ts i t q ht hq]
  exact ⟨c 0 (by omega), c 1 (by omega), c 2 (by omega), c 3 (by omega)⟩
theorem below_drawn {B : Nat} {w W : World} (h : Below B w W) (n : Nat) : Below B w (W.drewN n) := ⟨h.os, h.tape, h.output, h.size, h.block⟩
theorem unit_err {l lx : List Tok} {ks : List T} {fx : Int} {qx : Nat} (h : Sees l 0 0 (unitF (l.length + 1) l) ks lx fx qx) (hf : (fx == 0) = false) : unitP l = .error (qx, fx) := by
  rcases h with ⟨_, ⟨_, r1, rfl, rfl, rfl, n1⟩ | ⟨p, c, r1, rfl, rfl, hc⟩⟩ | ⟨e0, _⟩
  · cases hf
  · unfold unitP; rw [r1]; rfl
  · cases e0
theorem unit_ok {l lx : List Tok} {ks : List T} {qx : Nat} (h : Sees l 0 0 (unitF (l.length + 1) l) ks lx 0 qx) : unitP l = .ok (T.mk 0 e0 0 0 ks, lx) := by
  rcases h with ⟨_, ⟨_, r1, rfl, _, rfl, n1⟩ | ⟨p, c, r1, h1, rfl, hc⟩⟩ | ⟨e0, _⟩
  · unfold unitP; rw [r1]; rfl
  · rw [← h1] at hc; cases hc
  · cases e0

set_option maxRecDepth 100000 in
set_option maxHeartbeats 8000000 in
theorem rparse_ok (s : ByteArray) (w : World) (hs : s.size ≤ maxLen) {ts : List Tok} (hr : lexAll s = .ok ts) :
    Calls Tryd.prog 14 #[.string s] w (RParsePost (parseB s) w) := by
  have HS := Lib.hid hs
  clear hs
  obtain ⟨i0, z0, I⟩ := Tryd.refInfo
  go_enter Tryd.func14, Tryd.ntmps14
  go_wp2_with fail
  refine (refTokens_any s _ HS.out).mono ?_
  intro e w1 hp
  rw [hr] at hp
  obtain ⟨v, rfl, hown, hb⟩ := hp
  obtain ⟨hE, hok, hlen⟩ := lexAll_good hr
  have hkd := lexAll_kinded hr
  have hn : 0 < ts.length := by obtain ⟨t, r, rfl⟩ := hE.ne; simp
  obtain ⟨g, cap, rfl, hg1, hg2, hcap, hrow⟩ := rrow_of_own hown hn
  have HB := Lib.hid ((Blk.new w zeroNodeCells 31).kp (Kp.of_below (pb := w.heap.size + 1) hb) (by omega))
  have HW := Lib.hid (((Below.refl w.heap.size w).alloc (Nat.le_refl _) _).trans (hb.mono (by simp)))
  have HPB := Lib.hid (show parseB s = parseToks ts by unfold parseB; rw [hr])
  have hz1 := HB.out.lt
  have hg0 : w.heap.size < g := by simp at hg1; omega
  obtain ⟨E, hEE⟩ : ∃ E : Env, E = ⟨w1.heap.size, g, cap, ts⟩ := ⟨_, rfl⟩
  have hKW : Hid (KW E) := Lib.hid (by rw [hEE]; exact fun t ht => (hkd t ht).1)
  have PL0 : Hid (PLoc E (w1.alloc (.cells #[.slice (some ⟨g, 0, none⟩) ts.length cap, .int .i64 0, .int .i64 0, .int .i64 0, .int .i64 0] 83)) ((w1.alloc (.cells #[.slice (some ⟨g, 0, none⟩) ts.length cap, .int .i64 0, .int .i64 0, .int .i64 0, .int .i64 0] 83)).alloc (.cells (nodeCells (T.mk 0 e0 0 0 []) (.slice none 0 0)).toArray 31)) ts 0 0 (w1.heap.size + 1) [] (.slice none 0 0)) := Lib.hid (by
    have hbp : Blk (w1.alloc (.cells #[.slice (some ⟨g, 0, none⟩) ts.length cap, .int .i64 0, .int .i64 0, .int .i64 0, .int .i64 0] 83)) w1.heap.size [.slice (some ⟨g, 0, none⟩) ts.length cap, .int .i64 0, .int .i64 0, .int .i64 0, .int .i64 0] 83 := Blk.new w1 _ _
    have hst : RSt E (w1.alloc (.cells #[.slice (some ⟨g, 0, none⟩) ts.length cap, .int .i64 0, .int .i64 0, .int .i64 0, .int .i64 0] 83)) ts 0 0 0 := by
      subst hEE
      refine ⟨Nat.le_refl _, by simp, ?_, hrow.same (Below.heap_alloc _ _ _ hg2), by show g ≠ w1.heap.size; omega, by show g < _; simp; omega, hE, hok, fun t ht => (hkd t ht).2, hlen, hcap, by decide⟩
      simp only [Nat.sub_self]
      exact hbp
    have e1 : E.pb = w1.heap.size := by rw [hEE]
    have e2 : E.tb = g := by rw [hEE]
    exact ⟨hst.alloc _, (Kp.refl _ _).alloc _, Blk.newEq (by simp) _ _, KAt.nil _ _ _, by simp, by omega, by omega⟩)
  have HBA := Lib.hid (HB.out.alloc (.cells #[.slice (some ⟨g, 0, none⟩) ts.length cap, .int .i64 0, .int .i64 0, .int .i64 0, .int .i64 0] 83))
  have HWA := Lib.hid (HW.out.alloc HW.out.size (.cells #[.slice (some ⟨g, 0, none⟩) ts.length cap, .int .i64 0, .int .i64 0, .int .i64 0, .int .i64 0] 83))
  have e1 : E.pb = w1.heap.size := by rw [hEE]
  have e2 : E.tb = g := by rw [hEE]
  have e3 : E.cap = cap := by rw [hEE]
  have e4 : E.ts = ts := by rw [hEE]
  clear hb hr hE hok hn hown hrow hkd hEE hg1 hg2 hcap
  go_wp2_with fail
  generalize hpb : w1.heap.size = pb at *
  subst e1
  subst e2
  subst e3
  subst e4
  go_loopg [11] (E.ts.length + 2) (fun g op wr => RUnitRel E (w1.alloc (.cells #[.slice (some ⟨E.tb, 0, none⟩) E.ts.length E.cap, .int .i64 0, .int .i64 0, .int .i64 0, .int .i64 0] 83)) (E.pb + 1) g wr)
  case atStart => exact ⟨[], _, E.ts, 0, 0, PL0.out, by simp; omega, fun _ => ⟨by omega, E.ts.length + 1, Nat.le_refl _, fun ys lf f' q' h => by rw [List.nil_append]; exact h⟩, fun h => by cases h⟩
  case round =>
    obtain ⟨ks, v, lx, fx, qx, hpl, hcnt, hyes, hno⟩ := hrel
    have PL := Lib.hid hpl
    have HY := Lib.hid hyes
    have HN := Lib.hid hno
    have g0 : wr.cell? ⟨E.pb, 0, none⟩ = some (.slice (some ⟨E.tb, 0, none⟩) E.ts.length E.cap) := hpl.st.blk.cell 0
    have g1 : wr.cell? ⟨E.pb, 1, none⟩ = some (.int .i64 ((E.ts.length - lx.length : Nat) : Int)) := hpl.st.blk.cell 1
    have g3 : wr.cell? ⟨E.pb, 3, none⟩ = some (.int .i64 fx) := hpl.st.blk.cell 3
    have g4 : wr.cell? ⟨E.pb, 4, none⟩ = some (.int .i64 qx) := hpl.st.blk.cell 4
    obtain ⟨t0, t1, t2, t3⟩ := hpl.st.tok
    have hkl : E.ts.length - lx.length < E.ts.length := by have := hpl.st.head.1; have := hpl.st.le; omega
    have hcapb := hpl.st.capb
    have ix1 : (0 : Int) ≤ ((E.ts.length - lx.length : Nat) : Int) := by omega
    have ix2 : (((E.ts.length - lx.length : Nat) : Int)) < (E.ts.length : Int) := by omega
    obtain ⟨k, hidx⟩ : ∃ k, E.ts.length - lx.length = k := ⟨_, rfl⟩
    rw [hidx] at g1 t0 t3 hkl ix1 ix2
    have hplt : E.pb < wr.heap.size := hpl.st.plt
    have hpls := hpl.lt
    have HBr := Lib.hid (HBA.out.kp hpl.kp (by omega))
    have HWr := Lib.hid (HWA.out.trans (hpl.kp.below (B := w.heap.size) (by omega) (by simp; omega)))
    clear hidx hpl hyes hno t1 t2
    cases hfx : (fx == 0) with
    | false =>
      have HF := Lib.hid (HN.out hfx [])
      have hne : (fx != 0) = true := by rw [bne_iff_ne]; intro e; rw [e] at hfx; cases hfx
      have HP := Lib.hid (show parseB s = (zeroT, qx, fx) by rw [HPB.out]; unfold parseToks; rw [unit_err HF.out hfx])
      have r0 := HBr.out.cell 0
      have r1 := HBr.out.cell 1
      have r2 := HBr.out.cell 2
      have r3 := HBr.out.cell 3
      have r4 := HBr.out.cell 4
      have y0 := HBr.out.frozen 0
      have y1 := HBr.out.frozen 1
      have y2 := HBr.out.frozen 2
      have y3 := HBr.out.frozen 3
      have y4 := HBr.out.frozen 4
      have yl := HBr.out.lt
      have yn1 : E.pb ≠ w.heap.size := by omega
      have yn2 : w.heap.size ≠ E.pb := by omega
      simp only [zeroNodeCells, List.getElem?_cons_zero, List.getElem?_cons_succ] at r0 r1 r2 r3 r4
      clear HY HN
      go_wp2_with fail
      go_quiet (fail)
      go_wp2_with fail
      go_region_held3 (fun w' => w'.cell? ⟨E.pb, 3, none⟩ = some (.int .i64 fx) ∧ w'.cell? ⟨E.pb, 4, none⟩ = some (.int .i64 qx)) (first | go_keep) (fail)
      have HBz := Lib.hid (fun N => Blk.setSame (Blk.setSame (Blk.setSame (Blk.setSame (show Blk (wr.drewN N) w.heap.size zeroNodeCells 31 from HBr.out) 0 (.int .i64 0)) 1 (.string ⟨#[]⟩)) 2 (.int .i64 0)) 3 (.int .i64 0))
      have HWz := Lib.hid (fun N => ((((below_drawn HWr.out N).setCell (p := ⟨w.heap.size, 0, none⟩) (Nat.le_refl _) (.int .i64 0)).setCell (p := ⟨w.heap.size, 1, none⟩) (Nat.le_refl _) (.string ⟨#[]⟩)).setCell (p := ⟨w.heap.size, 2, none⟩) (Nat.le_refl _) (.int .i64 0)).setCell (p := ⟨w.heap.size, 3, none⟩) (Nat.le_refl _) (.int .i64 0))
      go_wp2_with fail
      refine ret_blk3 (cs := nodeCells zeroT (.slice none 0 0)) Tryd.results14 rfl (Blk.setSame (HBz.out _) 4 (.slice none 0 0)) Tryd.underlying31 rfl Tryd.sizeRef rfl rfl rfl ?_
      rw [HP.out]
      exact ⟨.slice none 0 0, rfl, KAt.nil _ _ _, (HWz.out _).setCell (p := ⟨w.heap.size, 4, none⟩) (Nat.le_refl _) (.slice none 0 0)⟩
    | true =>
      obtain rfl : fx = 0 := beq_iff_eq.1 hfx
      obtain ⟨hg, N, hN, hsee⟩ := HY.out hfx
      have HSEE := Lib.hid hsee
      have hlx := PL.out.st.head.1
      clear hsee HY HN
      cases hk0 : ((hdT lx).kind == 0) with
      | true =>
        have hk1 : (((hdT lx).kind : Int) != 0) = false := by rw [beq_iff_eq.1 hk0]; rfl
        have HF := Lib.hid (HSEE.out [] lx 0 qx (by rw [unitF_stop (by omega) hk0]; exact Sees.done _ _ _ _))
        have HU := Lib.hid (unit_ok (by have := HF.out; rwa [List.append_nil] at this))
        have hszu := unit_sz HU.out
        have hz := PL.out.gt
        have hlenE := PL.out.st.len
        have HP0 := Lib.hid (show parseB s = if 4096 < (T.mk 0 e0 0 0 ks).size then (zeroT, 0, 22) else (T.mk 0 e0 0 0 ks, 0, 0) by rw [HPB.out]; unfold parseToks; rw [HU.out])
        have PLd := Lib.hid (fun N => PL.out.draws N)
        go_wp2_with fail
        go_quiet (fail)
        go_wp2_with ((with_reducible refine at_ld 31 (.tmp 9) ?_); refine wpList_load_node rfl 31 (.tmp 9) rfl (E.pb + 1) (T.mk 0 e0 0 0 ks) v rfl (PLd.out _).blk Tryd.underlying31 rfl Tryd.sizeRef ?_)
        refine (refSize_any _ (T.mk 0 e0 0 0 ks) (Nat.le_refl _) (PLd.out _).kids (by omega)).mono ?_
        rintro e w4 ⟨rfl, hb4⟩
        have PL4 := Lib.hid ((PLd.out _).call (Kp.of_below hb4) ((PLd.out _).st.below hb4))
        have HB4 := Lib.hid (HBr.out.kp (((Kp.refl E.pb wr).draws _).trans (Kp.of_below hb4)) (by omega))
        have HW4 := Lib.hid (HWr.out.trans ((((Kp.refl E.pb wr).draws _).trans (Kp.of_below hb4)).below (B := w.heap.size) (by omega) hplt))
        clear hb4 g0 g1 g3 g4 t0 t3
        generalize (T.mk 0 e0 0 0 ks).size = sz at *
        by_cases hgt : 4096 < sz
        · have hgt2 : (4096 : Int) < (sz : Int) := by omega
          have HP := Lib.hid (show parseB s = (zeroT, 0, 22) by rw [HP0.out, if_pos hgt])
          clear hgt
          go_wp2_with ((with_reducible refine at_st 31 (.tmp 2) ?_); refine wpList_store_blk rfl 31 (.tmp 2) (.tmp 106) rfl w.heap.size (nodeCells zeroT (.slice none 0 0)) rfl rfl HB4.out Tryd.sizeRef rfl (nodeCells_one _ _ rfl) ?_)
          refine ret_blk3 (cs := nodeCells zeroT (.slice none 0 0)) Tryd.results14 rfl (HB4.out.rowSame _) Tryd.underlying31 rfl Tryd.sizeRef rfl rfl rfl ?_
          rw [HP.out]
          exact ⟨.slice none 0 0, rfl, KAt.nil _ _ _, below_setRow HW4.out (Nat.le_refl _) _⟩
        · have hgt2 : ¬ (4096 : Int) < (sz : Int) := by omega
          have HP := Lib.hid (show parseB s = (T.mk 0 e0 0 0 ks, 0, 0) by rw [HP0.out, if_neg hgt])
          clear hgt
          go_wp2_with (first | ((with_reducible refine at_ld 31 (.tmp 9) ?_); refine wpList_load_node rfl 31 (.tmp 9) rfl (E.pb + 1) (T.mk 0 e0 0 0 ks) v rfl PL4.out.blk Tryd.underlying31 rfl Tryd.sizeRef ?_) | ((with_reducible refine at_st 31 (.tmp 2) ?_); refine wpList_store_blk rfl 31 (.tmp 2) (.tmp 107) rfl w.heap.size (nodeCells (T.mk 0 e0 0 0 ks) v) rfl rfl HB4.out Tryd.sizeRef rfl (nodeCells_one _ _ PL4.out.kids.one) ?_))
          refine ret_blk3 (cs := nodeCells (T.mk 0 e0 0 0 ks) v) Tryd.results14 rfl (HB4.out.rowSame _) Tryd.underlying31 rfl Tryd.sizeRef rfl rfl rfl ?_
          rw [HP.out]
          exact ⟨v, rfl, (PL4.out.kids.setRow w.heap.size _ (fun b hb => by omega)).mono (fun b hb _ => by omega), below_setRow HW4.out (Nat.le_refl _) _⟩
      | false =>
        have hk1 : (((hdT lx).kind : Int) != 0) = true := by rw [bne_iff_ne]; intro e; rw [beq_eq_false_iff_ne] at hk0; omega
        go_wp2_with fail
        go_quiet (fail)
        go_wp2_with fail
        go_quiet (fail)
        go_wp2_with fail
        refine (rhas_tot (PL.out.draws _).st (bs [102, 110]) keyFn (by decide)).mono ?_
        rintro e w4 ⟨b4, l4, rfl, hs4, hp4, hc4⟩
        clear g0 g1 g3 g4 t0 t3
        rcases hc4 with ⟨rfl, hf4, hi4, hl4⟩ | ⟨rfl, hx4, hl4⟩
        · rw [hl4] at hs4
          have PL4 := Lib.hid ((PL.out.draws _).call hp4 hs4)
          clear hs4 hp4
          go_wp2_with fail
          refine (rfn_tot PL4.out.st hKW.out (hdT lx).place).mono ?_
          rintro e w5 ⟨t5, v5, l5, f5, q5, rfl, hk5, hn5, hs5, hp5, hsee5⟩
          have PL5 := Lib.hid (PL4.out.call hp5 hs5)
          have HV5 := Lib.hid (PL4.out.fresh hk5)
          have HNX := Lib.hid (unit_next hk0 hN (by rw [decl_fn hi4]; exact Sees.behind rfl hsee5) HSEE.out)
          have hz5 : E.pb + 1 < w5.heap.size := PL5.out.lt
          have n4 : w5.cell? ⟨E.pb + 1, 4, none⟩ = some v := PL5.out.blk.cell 4
          clear hk5 hs5 hp5 hsee5 hn5
          unfold NodeV
          go_wp2_with (first | ((with_reducible refine at_st 31 (.tmp 12) ?_); refine wpList_store_new rfl 31 (.tmp 12) (.tmp 65) rfl (nodeCells t5 v5) (old := zeroNodeCells) rfl rfl Tryd.sizeRef rfl (nodeCells_one _ _ HV5.out.one) ?_) | ((with_reducible refine at_ld 31 (.tmp 12) ?_); refine wpList_load_node rfl 31 (.tmp 12) rfl w5.heap.size t5 v5 rfl (Blk.newEq (by simp) _ _) Tryd.underlying31 rfl Tryd.sizeRef ?_) | (at_builtin; refine wpList_append_trees rfl (.tmp 67) (.tmp 69) rfl I (ks := ks) (ts := [t5]) (S := fun b => E.pb + 1 < b) rfl ((PL5.out.alloc _).alloc _).kids (us := [v5]) (TsAt.single ?c1) ?c2 rfl rfl (by simp) (lit1_eq _ (by simp) _ t5 v5) ?c3 ?_))
          case c1 => exact TAt.of_kids ((HV5.out.alloc _).alloc _)
          case c2 => simp only [World.size_alloc]; omega
          case c3 => simp; omega
          intro v6 w6 hK6 hg6 hb6
          obtain ⟨sa, sn, sc, rfl⟩ := hK6.slice
          obtain ⟨ha1, ha2, ha3, ha4⟩ := ((PL5.out.alloc _).alloc _).after hK6 hg6
          have PL6 := Lib.hid ha1
          clear ha1 hK6 hg6 hb6 n4
          go_wp2
          go_roundg (gk - 1)
          case measure => omega
          case rel => exact ⟨ks ++ [t5], _, l5, f5, q5, PL6.out, by simp; omega, fun hf => by
            obtain ⟨h1, M, h2, h3⟩ := HNX.out.1 hf
            exact ⟨by omega, M, h2, h3⟩, HNX.out.2⟩
        · rw [hl4] at hs4
          have hi4 : isT (hdT lx) (bs [102, 110]) = false := by simpa using hx4
          have PL3 := Lib.hid ((PL.out.draws _).call hp4 hs4)
          clear hs4 hp4 hx4
          go_wp2_with fail
          cases hty : isT (hdT lx) (bs [116, 121, 112, 101]) with
          | true =>
            refine (rmust_yes PL3.out.st (bs [116, 121, 112, 101]) keyType (by decide) hty).mono ?_
            rintro e w6 ⟨rfl, hs6, hp6⟩
            have PL4 := Lib.hid (PL3.out.call hp6 hs6)
            have c3 : w6.cell? ⟨E.pb, 3, none⟩ = some (.int .i64 0) := hs6.blk.cell 3
            clear hs6 hp6
            go_wp2_with fail
            refine (rtyp_tot PL4.out.st (hdT lx).place).mono ?_
            rintro e w5 ⟨t5, v5, l5, f5, q5, rfl, hk5, hn5, hs5, hp5, hsee5⟩
            have PL5 := Lib.hid (PL4.out.call hp5 hs5)
            have HV5 := Lib.hid (PL4.out.fresh hk5)
            have HNX := Lib.hid (unit_next hk0 hN (by rw [decl_type hty]; exact Sees.behind rfl hsee5) HSEE.out)
            have hz5 : E.pb + 1 < w5.heap.size := PL5.out.lt
            have n4 : w5.cell? ⟨E.pb + 1, 4, none⟩ = some v := PL5.out.blk.cell 4
            clear hk5 hs5 hp5 hsee5 hn5
            unfold NodeV
            go_wp2_with (first | ((with_reducible refine at_st 31 (.tmp 13) ?_); refine wpList_store_new rfl 31 (.tmp 13) (.tmp 81) rfl (nodeCells t5 v5) (old := zeroNodeCells) rfl rfl Tryd.sizeRef rfl (nodeCells_one _ _ HV5.out.one) ?_) | ((with_reducible refine at_ld 31 (.tmp 13) ?_); refine wpList_load_node rfl 31 (.tmp 13) rfl w5.heap.size t5 v5 rfl (Blk.newEq (by simp) _ _) Tryd.underlying31 rfl Tryd.sizeRef ?_) | (at_builtin; refine wpList_append_trees rfl (.tmp 83) (.tmp 85) rfl I (ks := ks) (ts := [t5]) (S := fun b => E.pb + 1 < b) rfl ((PL5.out.alloc _).alloc _).kids (us := [v5]) (TsAt.single ?c1) ?c2 rfl rfl (by simp) (lit1_eq _ (by simp) _ t5 v5) ?c3 ?_))
            case c1 => exact TAt.of_kids ((HV5.out.alloc _).alloc _)
            case c2 => simp only [World.size_alloc]; omega
            case c3 => simp; omega
            intro v6 w6 hK6 hg6 hb6
            obtain ⟨sa, sn, sc, rfl⟩ := hK6.slice
            obtain ⟨ha1, ha2, ha3, ha4⟩ := ((PL5.out.alloc _).alloc _).after hK6 hg6
            have PL6 := Lib.hid ha1
            clear ha1 hK6 hg6 hb6 n4
            go_wp2
            go_roundg (gk - 1)
            case measure => omega
            case rel => exact ⟨ks ++ [t5], _, l5, f5, q5, PL6.out, by simp; omega, fun hf => by
              obtain ⟨h1, M, h2, h3⟩ := HNX.out.1 hf
              exact ⟨by omega, M, h2, h3⟩, HNX.out.2⟩
          | false =>
            refine (rmust_no PL3.out.st (bs [116, 121, 112, 101]) keyType hty).mono ?_
            rintro e w6 ⟨rfl, hs6, hp6⟩
            have PL4 := Lib.hid (PL3.out.call hp6 hs6)
            have c3 : w6.cell? ⟨E.pb, 3, none⟩ = some (.int .i64 20) := hs6.blk.cell 3
            have HNX := Lib.hid (unit_next (t5 := zeroT) (l5 := lx) (f5 := 20) (q5 := (hdT lx).place) hk0 hN (.inl ⟨rfl, .inr ⟨_, _, decl_no hi4 hty, rfl, rfl, rfl⟩⟩) HSEE.out)
            clear hs6 hp6
            go_wp2
            go_roundg (gk - 1)
            case measure => omega
            case rel => exact ⟨ks, _, lx, 20, (hdT lx).place, PL4.out, by omega, fun hf => (by cases hf), HNX.out.2⟩

theorem rparse_any (s : ByteArray) (w : World) (hs : s.size ≤ maxLen) : Calls Tryd.prog 14 #[.string s] w (RParsePost (parseB s) w) := by
  cases hr : lexAll s with
  | error pc => obtain ⟨p, c⟩ := pc; exact rparse_lex s w hs hr
  | ok ts => exact rparse_ok s w hs hr

end Go.Proofs.YtnmpfpnldcgbaaaDoor
