/- The contract of the linker's add. -/
import Derived.Test.YtnmpfpnldcgbaaaDoorLnk3
import Derived.Test.YtnmpfpnldcgbaaaDoorLnkP
import Derived.Test.YtnmpfpnldcgbaaaDoorP36
import Derived.Deep.DeepCutAuto
namespace Go.Proofs.YtnmpfpnldcgbaaaDoor
open Go.RowKit Go.Maps

theorem Tryd.sizeLinker : (Tryd.prog.info? 98).map (·.size) = some 3 := by kernel_rfl
/- A store into the map, at the operation. -/
theorem wp_mapUpdate_own {H : Type} {P : Program} (w : World) {o : Oper} {a : Act} {K' : Act → World → Prop} {Q : Exit → Act → World → Prop}
    (m x v : Operand) (t : TypeId) (hop : o.op = Op.mapUpdate t m x v)
    (k e : TypeId) (K : Keyed P k) (ht : P.underlying t = some (.map k e)) (R : Value → Option (DataW H × List MemPlace)) (b n : Nat) (D : DataW H)
    (hm : a.eval m = .map (some b)) (hown : w.ownsMap P k R b n D) (hn : n < maxLen) (key val : Value) (kl : Lit) (hx : a.eval x = key) (hv : a.eval v = val) (hkey : keyOf P k key = some kl)
    (d : DataW H) (ps : List MemPlace) (hval : R val = some (d, ps))
    (hK : ∀ w', w'.ownsMap P k R b (n + 1) (D.put kl d) → w.grownBy w' (some b) → K' (a.put o.dst undef) w') : o.wp P a w K' Q := by
  obtain ⟨w', hrun, r1, r2⟩ := hown.update K ht hn hkey hval
  unfold Oper.wp
  simp [execOp, hop, hm, hx, hv, hrun, Result.andThen]
  exact hK w' r1 r2

/- What is kept of the texts' names. -/
def NamesOk (ts : List T) : Prop := ∀ t ∈ ts, t.kind = 6 → t.text.size ≤ maxLen
def AddPost (w : World) (B L M : Nat) (libs : Nat) (r : List Cod × Option Nat) (e : Ending) (w' : World) : Prop :=
  ∃ v', e = .returned (.tuple #[.int .i64 ((r.2.getD 0 : Nat) : Int), .int .i64 (bif r.2.isSome then 30 else 0)]) ∧ LkSt w' B L M r.1 libs v' ∧ Below B w w'

/- A name is told in the map. -/
theorem LkSt.name {w w1 : World} {B L M : Nat} {cs : List Cod} {libs : Nat} {v : Value} (h : LkSt w B L M cs libs v) {row : Option Nat} (hg : w.grownBy w1 row) (hr : row = some M) : Blk w1 L (lkCells v libs M) 98 ∧ CodsAt w1 cs (fun b => B ≤ b ∧ b ≠ L ∧ b ≠ M) v ∧ Below B w w1 := by
  subst hr
  refine ⟨h.l.grown hg (fun e => h.ne (Option.some.inj e)), h.c.keep fun b hb hl => ⟨hb, hg.block b hl (fun e => hb.2.2 (Option.some.inj e))⟩, ⟨hg.os, hg.tape, hg.output, Nat.le_trans (by have := h.m.lt; have := h.lo; omega) hg.size, fun k hk => hg.block k (Nat.lt_of_lt_of_le hk (by have := h.m.lt; have := h.lo; omega)) (fun e => by have := Option.some.inj e; have := h.lo; omega)⟩⟩

def AddRel (w : World) (B L M libs : Nat) (cs0 : List Cod) (ks : List T) (g : Nat) (i : Value) (wr : World) : Prop :=
  ∃ (k : Nat) (cs : List Cod) (v : Value), k ≤ ks.length ∧ ks.length ≤ k + g ∧ i = .int .i64 k ∧ LkSt wr B L M cs libs v ∧ Below B w wr ∧ w.heap.size ≤ wr.heap.size ∧ addL cs0 ks = addL cs (ks.drop k) ∧ cs.length ≤ cs0.length + k

set_option maxRecDepth 100000 in
set_option maxHeartbeats 400000 in
theorem add_any {w : World} {B L M libs : Nat} {cs0 : List Cod} {v0 : Value} (h : LkSt w B L M cs0 libs v0) {t : T} {kv : Value} (hk : KAt 25 w t.kids (fun b => b < B) kv) (hw : t.whole) (hs : t.size ≤ 4990) (hn : NamesOk t.kids) (hc0 : cs0.length ≤ 4990) :
    Calls Tryd.prog 42 #[.pointer (some ⟨L, 0, none⟩), NodeV t kv] w (AddPost w B L M libs (addL cs0 t.kids)) := by
  have hts : t.size = 1 + sizes t.kids := by cases t; rw [size_mk]; rfl
  have hkl := len_sizes t.kids
  have HWH := Lib.hid (whole_eq.1 hw).2
  have HTS := Lib.hid hts
  have HS := Lib.hid hs
  have HNM := Lib.hid hn
  have HC0 := Lib.hid hc0
  have H := Lib.hid h
  have hBw : B ≤ w.heap.size := by have := h.m.lt; have := h.lo; omega
  have HBW := Lib.hid hBw
  rcases hk.form with ⟨rfl, hnil⟩ | ⟨g, cap, rfl, hg, hcap, hcm, hget⟩
  · have HN := Lib.hid hnil
    have HE := Lib.hid (h.alloc (.cells (nodeCells t (.slice none 0 0)).toArray 25))
    have HB := Lib.hid (show Below B w (w.alloc (.cells (nodeCells t (.slice none 0 0)).toArray 25)) from (Below.refl _ _).alloc hBw _)
    clear hk hw hs hn hts hkl hnil h hBw hc0
    unfold NodeV
    go_enter Tryd.func42, Tryd.ntmps42
    go_wp2_with fail
    refine wp_loop_rounds 1 ?_
    rw [rounds_succ]
    go_wp2_with fail
    go_ret2
    refine ⟨v0, ?_, ?_, HB.out⟩
    · rw [HN.out]; rfl
    · rw [HN.out]; exact HE.out
  · have HK := Lib.hid hk
    have HGET := Lib.hid hget
    have HCAP := Lib.hid hcap
    have HST : Hid (AddRel w B L M libs cs0 t.kids t.kids.length (.int .i64 0) (w.alloc (.cells (nodeCells t (.slice (some ⟨g, 0, none⟩) t.kids.length cap)).toArray 25))) := Lib.hid ⟨0, cs0, v0, by omega, by omega, rfl, h.alloc _, (Below.refl _ _).alloc hBw _, by simp, by simp, by omega⟩
    have HGB := Lib.hid (show g < B from hk.own)
    clear hk hget hcap hw hs hn h hBw hc0
    unfold maxLen at hcm
    unfold NodeV
    go_enter Tryd.func42, Tryd.ntmps42
    go_wp2_with fail
    go_loopg [13] t.kids.length (fun gk i wr => AddRel w B L M libs cs0 t.kids gk i wr)
    case atStart => exact HST.out
    case round =>
      obtain ⟨k, cs, v, hk, hgk, rfl, hst, hbel, hsz, hadd, hcl⟩ := hrel
      have HSTR := Lib.hid hst
      have HBR := Lib.hid hbel
      have HADD := Lib.hid hadd
      have HCL := Lib.hid hcl
      obtain ⟨va, vc, rfl⟩ := hst.c.slice
      clear hst hbel hadd
      by_cases hlt : k < t.kids.length
      · obtain ⟨u, hr, hT⟩ := HGET.out k t.kids[k] (List.getElem?_eq_getElem hlt)
        have hne := List.getElem?_eq_getElem hlt
        have hks := sizes_mem hne
        have HDR := Lib.hid (show t.kids.drop k = t.kids[k] :: t.kids.drop (k + 1) from (List.drop_eq_getElem_cons hlt))
        generalize t.kids[k] = tk at hr hT hne hks HDR
        have HR := Lib.hid (show wr.rangeAt g (k * 5) (nodeCells tk u) from fun j x hj => (HBR.out.cell (p := ⟨g, k * 5 + j, none⟩) (show g < B from HGB.out)).trans (hr j x hj))
        have HTK := Lib.hid (show TAt 25 wr tk (fun b => b < B) u from TAt.keep _ hT fun b hb hl => ⟨hb, HBR.out.block b hb⟩)
        have HTW := Lib.hid (show tk.whole from wholes_mem HWH.out (List.mem_of_getElem? hne))
        have HTZ := Lib.hid (show tk.size ≤ 4990 from by have := HTS.out; have := HS.out; omega)
        have HTN := Lib.hid (show tk.kind = 6 → tk.text.size ≤ maxLen from HNM.out tk (List.mem_of_getElem? hne))
        have hcap := HCAP.out
        clear hr hT hne hks
        by_cases h6 : tk.kind = 6
        · obtain ⟨kk, kt, kn, kp, kks⟩ := tk
          obtain rfl : kk = 6 := h6
          have htn : kt.size ≤ maxLen := HTN.out rfl
          have HTN2 := Lib.hid htn
          obtain ⟨W, hW⟩ : ∃ W, wr.alloc (.cells [.int .i64 6, .string kt, .int .i64 kn, .int .i64 kp, u].toArray 25) = W := ⟨_, rfl⟩
          have HBLK := Lib.hid (show Blk W wr.heap.size [.int .i64 6, .string kt, .int .i64 kn, .int .i64 kp, u] 25 from hW ▸ Blk.new wr _ _)
          have HSW := Lib.hid (show LkSt W B L M cs libs _ from hW ▸ HSTR.out.alloc _)
          have HBWW := Lib.hid (show Below B w W from hW ▸ HBR.out.alloc (by have := HBW.out; omega) _)
          have HKW := Lib.hid (show KAt 25 W kks (fun b => b < B) u from hW ▸ (HTK.out.alloc _).kat)
          obtain ⟨c, hc, hrun⟩ := HSW.out.m.look htn
          have hlk : ∀ q, (Instr.lookup 66 (.map (some M)) (.string kt) true).run Tryd.prog (W.drewN q) = .ok (.tuple #[.int .i64 c, .bool (findN cs kt).isSome]) (W.drewN q) := fun q => hrun _ rfl
          have n0 : W.cell? ⟨wr.heap.size, 0, none⟩ = some (.int .i64 6) := HBLK.out.cell 0
          have n1 : W.cell? ⟨wr.heap.size, 1, none⟩ = some (.string kt) := HBLK.out.cell 1
          have n3 : W.cell? ⟨wr.heap.size, 3, none⟩ = some (.int .i64 kp) := HBLK.out.cell 3
          have l2 : W.cell? ⟨L, 2, none⟩ = some (.map (some M)) := HSW.out.l.cell 2
          clear hrun hc htn hcl
          go_wp2_with (first
            | ((with_reducible refine at_ld 25 (.tmp 15) ?_); refine wpList_load_mid rfl 25 (.tmp 15) rfl g (k * 5) rfl [.int .i64 6, .string kt, .int .i64 kn, .int .i64 kp, u] _ HR.out Tryd.underlying25 rfl Tryd.sizeNode ?_)
            | ((with_reducible refine at_st 25 (.tmp 7) ?_); refine wpList_store_new rfl 25 (.tmp 7) (.tmp 16) rfl [.int .i64 6, .string kt, .int .i64 kn, .int .i64 kp, u] (old := zeroNodeCells) rfl rfl Tryd.sizeNode rfl (nodeCells_one (T.mk 6 kt kn kp kks) _ HTK.out.kat.one) ?_))
          clear hW
          cases hf : findN cs kt with
          | some q =>
            rw [hf] at hlk
            go_quiet (fail)
            go_wp2_with fail
            go_ret2
            have he : addL cs0 t.kids = (cs, some kp) := by
              rw [HADD.out, HDR.out, addL_cons]
              show (bif (findN cs kt).isSome then (cs, some kp) else _) = _
              rw [hf]; rfl
            rw [he]
            exact ⟨_, rfl, HSW.out.below (below_nqL (Below.refl _ _) _), below_nqL HBWW.out _⟩
          | none =>
            rw [hf] at hlk
            go_quiet (fail)
            have HS8 := Lib.hid (HSW.out.below (below_nqL (Below.refl _ _) nq))
            have HB8 := Lib.hid (below_nqL HBWW.out nq)
            have HN8 := Lib.hid (show Blk (W.drewN nq) wr.heap.size [.int .i64 6, .string kt, .int .i64 kn, .int .i64 kp, u] 25 from HBLK.out)
            have HK8 := Lib.hid (HKW.out.below (below_nqL (Below.refl _ _) nq))
            clear HSW HBWW HBLK HKW n0 n1 n3 l2 hlk
            generalize W.drewN nq = W1 at *
            go_wp2_with fail
            refine AnyE.begin2 (S := fun W => Blk W L (lkCells (.slice va cs.length vc) libs M) 98 ∧ Blk W wr.heap.size [.int .i64 6, .string kt, .int .i64 kn, .int .i64 kp, u] 25) (by kernel_rfl) ⟨HS8.out.drew.l, HN8.out.drew⟩ (fun hS => ?_)
            refine AnyE.take (i := 0) (oi := ⟨some 33, _, _, _, _, _⟩) (v := .pointer (some ⟨L, 0, none⟩)) rfl (by kernel_rfl) (by kernel_rfl) (by kernel_rfl) (by kernel_rfl) (fun _ _ _ h => h) (Or.inl ⟨by rfl, fun W _ => by go_simp⟩) hS ?_
            try simp only [Act.put, List.setIfInBounds_toArray, List.set_cons_zero, List.set_cons_succ]
            refine AnyE.take (i := 1) (oi := ⟨some 34, _, _, _, _, _⟩) (v := .pointer (some ⟨L, 0, none⟩)) rfl (by kernel_rfl) (by kernel_rfl) (by kernel_rfl) (by kernel_rfl) (fun _ _ _ h => h) (Or.inl ⟨by rfl, fun W _ => by go_simp⟩) hS ?_
            try simp only [Act.put, List.setIfInBounds_toArray, List.set_cons_zero, List.set_cons_succ]
            refine AnyE.take (i := 2) (oi := ⟨some 35, _, _, _, _, _⟩) (v := .pointer (some ⟨L, 2, none⟩)) rfl (by kernel_rfl) (by kernel_rfl) (by kernel_rfl) (by kernel_rfl) (fun _ _ _ h => h) (Or.inl ⟨by rfl, fun W _ => by go_simp⟩) hS ?_
            try simp only [Act.put, List.setIfInBounds_toArray, List.set_cons_zero, List.set_cons_succ]
            refine AnyE.take (i := 3) (oi := ⟨some 36, _, _, _, _, _⟩) (v := .map (some M)) rfl (by kernel_rfl) (by kernel_rfl) (by kernel_rfl) (by kernel_rfl) (fun _ _ _ h => h) (Or.inl ⟨by rfl, fun W hW => by have hcx : W.cell? ⟨L, 2, none⟩ = some (.map (some M)) := (hW.1).cell 2; go_simp⟩) hS ?_
            try simp only [Act.put, List.setIfInBounds_toArray, List.set_cons_zero, List.set_cons_succ]
            refine AnyE.take (i := 4) (oi := ⟨some 37, _, _, _, _, _⟩) (v := .pointer (some ⟨wr.heap.size, 1, none⟩)) rfl (by kernel_rfl) (by kernel_rfl) (by kernel_rfl) (by kernel_rfl) (fun _ _ _ h => h) (Or.inl ⟨by rfl, fun W _ => by go_simp⟩) hS ?_
            try simp only [Act.put, List.setIfInBounds_toArray, List.set_cons_zero, List.set_cons_succ]
            refine AnyE.take (i := 5) (oi := ⟨some 38, _, _, _, _, _⟩) (v := .string kt) rfl (by kernel_rfl) (by kernel_rfl) (by kernel_rfl) (by kernel_rfl) (fun _ _ _ h => h) (Or.inl ⟨by rfl, fun W hW => by have hcx : W.cell? ⟨wr.heap.size, 1, none⟩ = some (.string kt) := (hW.2).cell 1; go_simp⟩) hS ?_
            try simp only [Act.put, List.setIfInBounds_toArray, List.set_cons_zero, List.set_cons_succ]
            refine AnyE.take (i := 6) (oi := ⟨some 39, _, _, _, _, _⟩) (v := .pointer (some ⟨L, 0, none⟩)) rfl (by kernel_rfl) (by kernel_rfl) (by kernel_rfl) (by kernel_rfl) (fun _ _ _ h => h) (Or.inl ⟨by rfl, fun W _ => by go_simp⟩) hS ?_
            try simp only [Act.put, List.setIfInBounds_toArray, List.set_cons_zero, List.set_cons_succ]
            refine AnyE.take (i := 7) (oi := ⟨some 40, _, _, _, _, _⟩) (v := .pointer (some ⟨L, 0, none⟩)) rfl (by kernel_rfl) (by kernel_rfl) (by kernel_rfl) (by kernel_rfl) (fun _ _ _ h => h) (Or.inl ⟨by rfl, fun W _ => by go_simp⟩) hS ?_
            try simp only [Act.put, List.setIfInBounds_toArray, List.set_cons_zero, List.set_cons_succ]
            refine AnyE.take (i := 8) (oi := ⟨some 41, _, _, _, _, _⟩) (v := .pointer (some ⟨L, 0, none⟩)) rfl (by kernel_rfl) (by kernel_rfl) (by kernel_rfl) (by kernel_rfl) (fun _ _ _ h => h) (Or.inl ⟨by rfl, fun W _ => by go_simp⟩) hS ?_
            try simp only [Act.put, List.setIfInBounds_toArray, List.set_cons_zero, List.set_cons_succ]
            refine AnyE.take (i := 9) (oi := ⟨some 42, _, _, _, _, _⟩) (v := .slice va cs.length vc) rfl (by kernel_rfl) (by kernel_rfl) (by kernel_rfl) (by kernel_rfl) (fun _ _ _ h => h) (Or.inl ⟨by rfl, fun W hW => by have hcx : W.cell? ⟨L, 0, none⟩ = some (.slice va cs.length vc) := (hW.1).cell 0; go_simp⟩) hS ?_
            try simp only [Act.put, List.setIfInBounds_toArray, List.set_cons_zero, List.set_cons_succ]
            refine AnyE.take (i := 10) (oi := ⟨some 43, _, _, _, _, _⟩) (v := .int .i64 (cs.length : Int)) rfl (by kernel_rfl) (by kernel_rfl) (by kernel_rfl) (by kernel_rfl) (fun _ _ _ h => h) (Or.inl ⟨by rfl, fun W _ => by go_simp⟩) hS ?_
            try simp only [Act.put, List.setIfInBounds_toArray, List.set_cons_zero, List.set_cons_succ]
            obtain ⟨mn, D, hmo, hmn, hmi, hmd⟩ := HS8.out.drew.m
            refine AnyE.one (i := 11) (o := ⟨none, _, _, _, _, _⟩) (by kernel_rfl) rfl (by rfl) (fun K hK => ?_)
            try simp only [Act.put, List.setIfInBounds_toArray, List.set_cons_zero, List.set_cons_succ]
            have HW1 := Lib.hid (show (Lit.int .i64 (cs.length : Int)).wf = true from WalkArith.wf_i64 (by have := HCL.out; have := HC0.out; have := HTS.out; have := HS.out; omega))
            have HMN := Lib.hid (show mn < maxLen from by have := HCL.out; have := HC0.out; have := HTS.out; have := HS.out; unfold maxLen; omega)
            have HKEY := Lib.hid (show keyOf Tryd.prog 9 (.string kt) = some (keyL kt) from WideMaps.keyOf_string_mk Tryd.underlying9 HTN2.out)
            refine wp_mapUpdate_own (D := D) (R := plainElem Tryd.prog 3) (b := M) (n := mn) (key := .string kt) (val := .int .i64 (cs.length : Int)) (kl := keyL kt) (d := .lit (.int .i64 (cs.length : Int))) (ps := []) W1.drew (.tmp 36) (.tmp 38) (.tmp 43) 66 rfl 9 3 lawStr Tryd.underlying66 (hm := rfl) (hown := hmo) (hn := HMN.out) (hx := rfl) (hv := rfl) (hkey := HKEY.out) (hval := plainElem_int Tryd.underlying3 HW1.out) (hK := fun w1 hm1 hg1 => ?_)
            obtain ⟨hl1, hc1, hb1⟩ := HS8.out.drew.name hg1 rfl
            have hname : (lowerI (T.mk 6 kt kn kp kks)).name = kt := lowerI_name (t := T.mk 6 kt kn kp kks) rfl
            have HM1 := Lib.hid (show MapAt w1 M (cs ++ [lowerI (T.mk 6 kt kn kp kks)]) from MapAt.snoc hmn hmi hmd (by rw [hname]; exact hm1) (by rw [hname]; exact hf))
            have HL1 := Lib.hid hl1
            have HC1 := Lib.hid hc1
            have HB1 := Lib.hid (HB8.out.drew.trans hb1)
            have HN1 := Lib.hid (show Blk w1 wr.heap.size [.int .i64 6, .string kt, .int .i64 kn, .int .i64 kp, u] 25 from HN8.out.drew.grown hg1 (fun e => by have h1 := Option.some.inj e; have h2 := HSTR.out.m.lt; omega))
            have HK1 := Lib.hid (show KAt 25 w1 kks (fun b => b < B) u from KAt.keep HK8.out.drew fun b hb hl => ⟨hb, hb1.block b hb⟩)
            have HADD2 := Lib.hid (show addL cs0 t.kids = addL (cs ++ [lowerI (T.mk 6 kt kn kp kks)]) (t.kids.drop (k + 1)) by
              rw [HADD.out, HDR.out, addL_cons]
              show (bif (findN cs kt).isSome then (cs, some kp) else addL (cs ++ [lowerI (T.mk 6 kt kn kp kks)]) (t.kids.drop (k + 1))) = _
              rw [hf]; rfl)
            have HSZ := Lib.hid (show w.heap.size ≤ w1.heap.size from HB1.out.size)
            have HLT := Lib.hid (show L < w1.heap.size ∧ M < w1.heap.size from ⟨hl1.lt, HM1.out.lt⟩)
            clear hname hmo hmn hmi hmd hm1 hg1 hl1 hc1 hb1 hS
            refine hK.out _ _ (fun h => absurd rfl h) ?_
            clear hK K HS8 HB8 HN8 HK8
            refine AnyE.done (by kernel_rfl) ?_ _
            go_wp2_with fail
            refine AnyE.begin2 (S := fun W => Blk W L (lkCells (.slice va cs.length vc) libs M) 98 ∧ Blk W wr.heap.size [.int .i64 6, .string kt, .int .i64 kn, .int .i64 kp, u] 25) (by kernel_rfl) ⟨HL1.out.drew, HN1.out.drew⟩ (fun hS => ?_)
            refine AnyE.take (i := 0) (oi := ⟨some 44, _, _, _, _, _⟩) (v := .pointer (some ⟨L, 0, none⟩)) rfl (by kernel_rfl) (by kernel_rfl) (by kernel_rfl) (by kernel_rfl) (fun _ _ _ h => h) (Or.inl ⟨by rfl, fun W _ => by go_simp⟩) hS ?_
            try simp only [Act.put, List.setIfInBounds_toArray, List.set_cons_zero, List.set_cons_succ]
            refine AnyE.take (i := 1) (oi := ⟨some 45, _, _, _, _, _⟩) (v := .pointer (some ⟨L, 0, none⟩)) rfl (by kernel_rfl) (by kernel_rfl) (by kernel_rfl) (by kernel_rfl) (fun _ _ _ h => h) (Or.inl ⟨by rfl, fun W _ => by go_simp⟩) hS ?_
            try simp only [Act.put, List.setIfInBounds_toArray, List.set_cons_zero, List.set_cons_succ]
            refine AnyE.take (i := 2) (oi := ⟨some 46, _, _, _, _, _⟩) (v := .pointer (some ⟨L, 0, none⟩)) rfl (by kernel_rfl) (by kernel_rfl) (by kernel_rfl) (by kernel_rfl) (fun _ _ _ h => h) (Or.inl ⟨by rfl, fun W _ => by go_simp⟩) hS ?_
            try simp only [Act.put, List.setIfInBounds_toArray, List.set_cons_zero, List.set_cons_succ]
            refine AnyE.take (i := 3) (oi := ⟨some 47, _, _, _, _, _⟩) (v := .pointer (some ⟨L, 0, none⟩)) rfl (by kernel_rfl) (by kernel_rfl) (by kernel_rfl) (by kernel_rfl) (fun _ _ _ h => h) (Or.inl ⟨by rfl, fun W _ => by go_simp⟩) hS ?_
            try simp only [Act.put, List.setIfInBounds_toArray, List.set_cons_zero, List.set_cons_succ]
            refine AnyE.take (i := 4) (oi := ⟨some 48, _, _, _, _, _⟩) (v := .slice va cs.length vc) rfl (by kernel_rfl) (by kernel_rfl) (by kernel_rfl) (by kernel_rfl) (fun _ _ _ h => h) (Or.inl ⟨by rfl, fun W hW => by have hcx : W.cell? ⟨L, 0, none⟩ = some (.slice va cs.length vc) := (hW.1).cell 0; go_simp⟩) hS ?_
            try simp only [Act.put, List.setIfInBounds_toArray, List.set_cons_zero, List.set_cons_succ]
            refine AnyE.take (i := 5) (oi := ⟨some 49, _, _, _, _, _⟩) (v := .agg #[.int .i64 6, .string kt, .int .i64 kn, .int .i64 kp, u]) rfl (by kernel_rfl) (by kernel_rfl) (by kernel_rfl) (by kernel_rfl) (fun _ _ _ h => h) (yieldsIf_load_mid (cs := [.int .i64 6, .string kt, .int .i64 kn, .int .i64 kp, u]) (by rfl) 25 (.tmp 7) rfl (wr.heap.size) 0 (by go_simp) _ (fun W hW j v hj => by rw [Nat.zero_add, (hW.2).cell j]; exact hj) Tryd.underlying25 rfl Tryd.sizeNode) hS ?_
            try simp only [Act.put, List.setIfInBounds_toArray, List.set_cons_zero, List.set_cons_succ]
            refine AnyE.one (i := 6) (o := ⟨some 50, _, _, _, _, _⟩) (by kernel_rfl) rfl (by rfl) (fun K hK => ?_)
            go_simp
            refine (lower_any (t := T.mk 6 kt kn kp kks) HK1.out.drew HTW.out HTZ.out).mono ?_
            generalize hcd : lowerI (T.mk 6 kt kn kp kks) = cd at *
            rintro e x1 ⟨pv, lv, rfl, hca, hb2⟩
            obtain ⟨pa, pc, rfl⟩ := hca.1.slice
            obtain ⟨la, lc, rfl⟩ := hca.2.slice
            have HC2 := Lib.hid (HC1.out.drew.below hb2)
            have HM2 := Lib.hid (HM1.out.below (w' := x1) ((Below.refl _ _).drew.trans hb2))
            have HB2 := Lib.hid (show Below B w x1 from HB1.out.drew.trans (hb2.mono (by have := HBW.out; have := HSZ.out; show B ≤ w1.heap.size; omega)))
            have HCA := Lib.hid hca
            have hz1 : w1.heap.size ≤ x1.heap.size := hb2.size
            have hS1 : Blk x1 L (lkCells (.slice va cs.length vc) libs M) 98 ∧ Blk x1 wr.heap.size [.int .i64 6, .string kt, .int .i64 kn, .int .i64 kp, u] 25 := ⟨hS.1.stays hb2, hS.2.stays hb2⟩
            clear hS hb2 hca
            have hS := hS1
            clear hS1
            unfold CodV
            refine hK.out _ _ (fun _ => hS) ?_
            clear hK K
            try simp only [Act.put, List.setIfInBounds_toArray, List.set_cons_zero, List.set_cons_succ]
            refine AnyE.one (i := 7) (o := ⟨some 51, _, _, _, _, _⟩) (by kernel_rfl) rfl (by rfl) (fun K hK => ?_)
            go_simp
            have HC3 := Lib.hid (HC2.out.below ((Below.refl _ _).alloc (Nat.le_refl _) (.cells [.string cd.name, .slice pa cd.params.length pc, .slice la cd.list.length lc].toArray 55)))
            have HM3 := Lib.hid (HM2.out.below ((Below.refl _ _).alloc (Nat.le_refl _) (.cells [.string cd.name, .slice pa cd.params.length pc, .slice la cd.list.length lc].toArray 55)))
            have HN3 := Lib.hid (Blk.new x1 [.string cd.name, .slice pa cd.params.length pc, .slice la cd.list.length lc] 55)
            have HB3 := Lib.hid (show Below B w (x1.alloc (.cells [.string cd.name, .slice pa cd.params.length pc, .slice la cd.list.length lc].toArray 55)) from HB2.out.alloc (by have := HBW.out; have := HSZ.out; omega) _)
            have HCA3 := Lib.hid (HCA.out.keep (w' := x1.alloc (.cells [.string cd.name, .slice pa cd.params.length pc, .slice la cd.list.length lc].toArray 55)) (S' := fun b => w1.heap.size ≤ b) fun b hb hl => ⟨hb, Below.heap_alloc _ _ b hl⟩)
            have hS1 : Blk (x1.alloc (.cells [.string cd.name, .slice pa cd.params.length pc, .slice la cd.list.length lc].toArray 55)) L (lkCells (.slice va cs.length vc) libs M) 98 ∧ Blk (x1.alloc (.cells [.string cd.name, .slice pa cd.params.length pc, .slice la cd.list.length lc].toArray 55)) wr.heap.size [.int .i64 6, .string kt, .int .i64 kn, .int .i64 kp, u] 25 := ⟨hS.1.alloc _, hS.2.alloc _⟩
            have hz3 : x1.heap.size < (x1.alloc (.cells [.string cd.name, .slice pa cd.params.length pc, .slice la cd.list.length lc].toArray 55)).heap.size := by simp
            clear hS
            have hS := hS1
            clear hS1 HC2 HM2 HB2 HCA
            refine hK.out _ _ (fun _ => hS) ?_
            clear hK K
            try simp only [Act.put, List.setIfInBounds_toArray, List.set_cons_zero, List.set_cons_succ]
            refine AnyE.one (i := 8) (o := ⟨some 52, _, _, _, _, _⟩) (by kernel_rfl) rfl (by rfl) (fun K hK => ?_)
            obtain ⟨ic, zc, IC⟩ := Tryd.codeInfo
            have HVB := Lib.hid (show ∀ b, (Value.slice va cs.length vc).ownBlock = some b → b < w1.heap.size ∧ (B ≤ b ∧ b ≠ L ∧ b ≠ M) from fun b hb => by
              obtain ⟨us, ho, hs', _⟩ := HC1.out
              exact ⟨(ho.lt b hb).2, hs' b hb⟩)
            refine wp_append_cod (b := x1.heap.size) (.tmp 48) (.tmp 51) rfl IC rfl HC3.out (by have := HLT.out; have := HBW.out; have := HSZ.out; simp; omega) rfl HN3.out (HCA3.out.keep fun b hb _ => ⟨⟨⟨by have := HBW.out; have := HSZ.out; omega, by have := HLT.out; omega, by have := HLT.out; omega⟩, fun e => by have := (HVB.out b e).1; omega⟩, rfl⟩) (by have := HCL.out; have := HC0.out; have := HTS.out; have := HS.out; omega) (fun v' x2 hc2 hg2 hl2 => ?_)
            have hneL : some L ≠ (Value.slice va cs.length vc).ownBlock := fun e => (HVB.out L e.symm).2.2.1 rfl
            have hneM : some M ≠ (Value.slice va cs.length vc).ownBlock := fun e => (HVB.out M e.symm).2.2.2 rfl
            have hneN : some wr.heap.size ≠ (Value.slice va cs.length vc).ownBlock := fun e => by
              obtain ⟨us, ho, _⟩ := HSTR.out.c
              have := (ho.lt _ e.symm).2
              omega
            have hS1 : Blk x2 L (lkCells (.slice va cs.length vc) libs M) 98 ∧ Blk x2 wr.heap.size [.int .i64 6, .string kt, .int .i64 kn, .int .i64 kp, u] 25 := ⟨hS.1.grown hg2 hneL, hS.2.grown hg2 hneN⟩
            have HM4 := Lib.hid (HM3.out.kept hg2 hneM)
            have HB4 := Lib.hid (HB3.out.grown hg2 (by have := HBW.out; have := HSZ.out; omega) fun b hb => (HVB.out b hb).2.1)
            have HC4 := Lib.hid hc2
            obtain ⟨va2, vc2, rfl⟩ := hc2.slice
            clear hS hg2 hc2 hl2 hneL hneM hneN HC3 HM3 HB3 HN3 HCA3
            have hS := hS1
            clear hS1
            refine hK.out _ _ (fun _ => hS) ?_
            clear hK K
            try simp only [Act.put, List.setIfInBounds_toArray, List.set_cons_zero, List.set_cons_succ]
            refine AnyE.one (i := 9) (o := ⟨some 53, _, _, _, _, _⟩) (by kernel_rfl) rfl (by rfl) (fun K hK => ?_)
            go_simp
            refine hK.out _ _ (fun _ => hS) ?_
            clear hK K
            try simp only [Act.put, List.setIfInBounds_toArray, List.set_cons_zero, List.set_cons_succ]
            refine AnyE.take (i := 10) (oi := ⟨some 54, _, _, _, _, _⟩) (v := .pointer (some ⟨L, 0, none⟩)) rfl (by kernel_rfl) (by kernel_rfl) (by kernel_rfl) (by kernel_rfl) (fun _ _ _ h => h) (Or.inl ⟨by rfl, fun W _ => by go_simp⟩) hS ?_
            try simp only [Act.put, List.setIfInBounds_toArray, List.set_cons_zero, List.set_cons_succ]
            have hl0 := hS.1.cell 0
            have hlf := hS.1.frozen 0
            simp only [lkCells, List.getElem?_cons_zero] at hl0
            have HST2 := Lib.hid (show LkSt (x2.setCell ⟨L, 0, none⟩ (.slice va2 (cs ++ [cd]).length vc2)) B L M (cs ++ [cd]) libs (.slice va2 (cs ++ [cd]).length vc2) from
              ⟨hS.1.setSame 0 _, HC4.out.keep fun b hb _ => ⟨hb, Below.heap_setCell _ _ _ _ hb.2.1⟩, HM4.out.same (Below.heap_setCell _ _ _ _ (Ne.symm HSTR.out.ne)), HSTR.out.lo, HSTR.out.ne⟩)
            have HB5 := Lib.hid (HB4.out.setCell (p := ⟨L, 0, none⟩) HSTR.out.lo.1 (.slice va2 (cs ++ [cd]).length vc2))
            refine AnyE.one (i := 11) (o := ⟨none, _, _, _, _, _⟩) (by kernel_rfl) rfl (by rfl) (fun K hK => ?_)
            go_simp
            refine hK.out _ _ (fun h => absurd rfl h) ?_
            clear hK K
            refine AnyE.done (by kernel_rfl) ?_ _
            clear hS hl0 hlf HM4 HC4 HB4
            go_wp2_with fail
            go_roundg (gk - 1)
            case measure => omega
            case rel => exact ⟨k + 1, cs ++ [cd], _, by omega, by omega, by go_num, by first | exact HST2.out | simpa using HST2.out, by first | exact HB5.out | simpa using HB5.out, by first | exact HB5.out.size | simpa using HB5.out.size, HADD2.out, by have := HCL.out; simp; omega⟩
        · have h6' : (tk.kind == 6) = false := by simpa using h6
          have h6n : (tk.kind != 6) = true := by simpa using h6
          have HADD2 := Lib.hid (show addL cs0 t.kids = addL cs (t.kids.drop (k + 1)) by rw [HADD.out, HDR.out, addL_cons, h6']; rfl)
          obtain ⟨kk, kt, kn, kp, kks⟩ := tk
          have h6k : (kk != 6) = true := h6n
          have HS2 := Lib.hid (HSTR.out.alloc (.cells [.int .i64 kk, .string kt, .int .i64 kn, .int .i64 kp, u].toArray 25))
          have HB2 := Lib.hid (HBR.out.alloc (by have := HBW.out; omega) (.cells [.int .i64 kk, .string kt, .int .i64 kn, .int .i64 kp, u].toArray 25))
          go_wp2_with (first
            | ((with_reducible refine at_ld 25 (.tmp 15) ?_); refine wpList_load_mid rfl 25 (.tmp 15) rfl g (k * 5) rfl [.int .i64 kk, .string kt, .int .i64 kn, .int .i64 kp, u] _ HR.out Tryd.underlying25 rfl Tryd.sizeNode ?_)
            | ((with_reducible refine at_st 25 (.tmp 7) ?_); refine wpList_store_new rfl 25 (.tmp 7) (.tmp 16) rfl [.int .i64 kk, .string kt, .int .i64 kn, .int .i64 kp, u] (old := zeroNodeCells) rfl rfl Tryd.sizeNode rfl (nodeCells_one (T.mk kk kt kn kp kks) _ HTK.out.kat.one) ?_))
          go_roundg (gk - 1)
          case measure => omega
          case rel => exact ⟨k + 1, cs, _, by omega, by omega, by go_num, HS2.out, HB2.out, HB2.out.size, HADD2.out, by omega⟩
      · have hE : addL cs0 t.kids = (cs, none) := by rw [HADD.out, List.drop_of_length_le (by omega)]; rfl
        go_wp2_with fail
        go_ret2
        rw [hE]
        exact ⟨_, rfl, HSTR.out, HBR.out⟩

end Go.Proofs.YtnmpfpnldcgbaaaDoor
