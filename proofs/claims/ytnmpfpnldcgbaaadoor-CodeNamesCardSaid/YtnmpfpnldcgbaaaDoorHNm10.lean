/- What lychgatelaw07.CodeNames lays out ahead of its two calls: the document's instruction, its terms copied one by one. -/
import Derived.Test.YtnmpfpnldcgbaaaDoorHNm5
import Derived.Test.YtnmpfpnldcgbaaaDoorHNm9
import Derived.Test.YtnmpfpnldcgbaaaDoorP34
import Derived.Test.YtnmpfpnldcgbaaaDoorP36
import Derived.Test.YtnmpfpnldcgbaaaDoorHNm1b
import Derived.Deep.DeepCutAuto
import Derived.BigQuiet
namespace Go.Proofs.YtnmpfpnldcgbaaaDoor
open Go.RowKit

section
variable {P : Program} {ops : Array Oper} {Q : Exit → Act → World → Prop} {md : Region.Mode} {S : World → Prop}
theorem AnyH.pair {i k : Nat} {o u : Oper} {fuel : Nat} {listed : Array Bool} {a : Act} {w : World} (hr : Region.ready md ops listed = [i, k]) (ho : ops[i]? = some o) (hu : ops[k]? = some u) (hw : Region.wanted o (yielded ops a.tmps) = true) (hv : Region.wanted u (yielded ops a.tmps) = true)
    (h : ∀ K : Act → World → Prop, Shut (∀ a w, S w → wpAnyH P md ops Q S fuel (listed.setIfInBounds i true) a w → K a w) → o.wp P a w K Q)
    (h' : ∀ K : Act → World → Prop, Shut (∀ a w, S w → wpAnyH P md ops Q S fuel (listed.setIfInBounds k true) a w → K a w) → u.wp P a w K Q) : wpAnyH P md ops Q S (fuel + 1) listed a w := by
  refine ⟨(fun h0 => by rw [hr] at h0; cases h0), fun j hj => ?_⟩
  rw [hr] at hj
  have hj2 : j = i ∨ j = k := by simpa using hj
  rcases hj2 with rfl | rfl
  · refine wpOp_step ho fun K' hK => ?_
    rw [if_pos hw]
    exact h K' fun a w hS hA => hK a w ⟨hS, hA⟩
  · refine wpOp_step hu fun K' hK => ?_
    rw [if_pos hv]
    exact h' K' fun a w hS hA => hK a w ⟨hS, hA⟩
end

/- What is kept: the instruction that came in, the document's, its row of terms. -/
structure CnSt (w : World) (ic rc : List Value) (gr : Nat) (ts : List Tm) (v : Value) (W : World) : Prop where
  n : Blk W w.heap.size ic 43
  r : Blk W gr rc 48
  lo : w.heap.size < gr
  t : W.ownsRow 0 44 2 v ts.length (tmsCells ts)
  s : ∀ g, v.ownBlock = some g → gr < g
  b : Below w.heap.size w W
theorem CnSt.call {w W W' : World} {ic rc : List Value} {gr : Nat} {ts : List Tm} {v : Value} (h : CnSt w ic rc gr ts v W) (hb : Below W.heap.size W W') : CnSt w ic rc gr ts v W' :=
  ⟨h.n.stays hb, h.r.stays hb, h.lo, ownsRow_keep h.t fun g hg => hb.block g (h.t.lt g hg).2, h.s, h.b.trans (hb.mono h.b.size)⟩
theorem CnSt.alloc {w W : World} {ic rc : List Value} {gr : Nat} {ts : List Tm} {v : Value} (h : CnSt w ic rc gr ts v W) (x : Obj) : CnSt w ic rc gr ts v (W.alloc x) := h.call ((Below.refl _ _).alloc (Nat.le_refl _) _)
theorem CnSt.drew {w W : World} {ic rc : List Value} {gr : Nat} {ts : List Tm} {v : Value} (h : CnSt w ic rc gr ts v W) : CnSt w ic rc gr ts v W.drew := h.call (Below.refl _ _).drew
/- A term more, and the slice told in the document's instruction. -/
theorem CnSt.put {w W W' : World} {ic rc : List Value} {gr : Nat} {ts ts' : List Tm} {v v' : Value} (h : CnSt w ic rc gr ts v W) (hg : W.grownBy W' v.ownBlock) (ht : W'.ownsRow 0 44 2 v' ts'.length (tmsCells ts')) (hloc : v'.ownBlock = v.ownBlock ∨ v'.ownBlock = some W.heap.size) :
    CnSt w ic (rc.set 8 v') gr ts' v' (W'.setCell ⟨gr, 8, none⟩ v') := by
  have hne : ∀ k, k ≤ gr → some k ≠ v.ownBlock := fun k hk e => by have := h.s k e.symm; omega
  have hgt : ∀ g, v'.ownBlock = some g → gr < g := fun g hv => by
    rcases hloc with e | e
    · exact h.s g (e ▸ hv)
    · rw [e] at hv; cases hv; exact h.r.lt
  refine ⟨(h.n.grown hg (hne _ (Nat.le_of_lt h.lo))).setOther _ _ (by show w.heap.size ≠ gr; have := h.lo; omega), (h.r.grown hg (hne _ (Nat.le_refl _))).setSame 8 v', h.lo, ownsRow_keep ht fun g hv => Below.heap_setCell _ _ _ _ (by have := hgt g hv; show g ≠ gr; omega), hgt, ?_⟩
  have hb : Below w.heap.size w W' := ⟨hg.os.trans h.b.os, hg.tape.trans h.b.tape, hg.output.trans h.b.output, Nat.le_trans h.b.size hg.size, fun k hk => (hg.block k (Nat.lt_of_lt_of_le hk h.b.size) (hne k (by have := h.lo; omega))).trans (h.b.block k hk)⟩
  exact hb.setCell (Nat.le_of_lt h.lo) v'
def CnRel (w : World) (ic : List Value) (rcf : Value → List Value) (gr : Nat) (ts : List Tm) (gh : Nat) (i : Value) (wr : World) : Prop :=
  ∃ (k : Nat) (v : Value), k ≤ ts.length ∧ ts.length ≤ k + gh ∧ i = .int .i64 k ∧ CnSt w ic (rcf v) gr (ts.take k) v wr
theorem TmsAt.up {w : World} {B B' : Nat} {A : Option Addr} {ts : List Tm} (h : TmsAt w B A ts) (hB : B ≤ B') : TmsAt w B' A ts := fun hn => by
  obtain ⟨q, o, e, hq, hc⟩ := h hn
  exact ⟨q, o, e, Nat.lt_of_lt_of_le hq hB, hc⟩
def CnLp (w : World) (n : Nat) (g : Nat) (i : Value) (wr : World) : Prop := ∃ k : Nat, k ≤ n ∧ n ≤ k + g ∧ i = .int .i64 k ∧ Below w.heap.size w wr
theorem below_nq2 {B : Nat} {a w : World} (h : Below B a w) (n : Nat) : Below B a (w.drewN n) := ⟨h.os, h.tape, h.output, h.size, h.block⟩
theorem strs_at {w : World} {ss : List ByteArray} {S : Nat → Prop} {A : Option Addr} {c j : Nat} (h : StrsAt w ss S (.slice A ss.length c)) (hj : j < ss.length) :
    ∃ g, A = some ⟨g, 0, none⟩ ∧ ∀ W : World, Below w.heap.size w W → ∀ i s, ss[i]? = some s → W.cell? ⟨g, i, none⟩ = some (.string s) := by
  have hf := h.1
  rcases h.1.2 with ⟨e, h0⟩ | ⟨g, cap, cur, e, hb, hg, hnc, hcm, hcs, htake⟩
  · omega
  · simp only [Value.slice.injEq] at e
    obtain ⟨rfl, _, rfl⟩ := e
    refine ⟨g, rfl, fun W hW i s hs => ?_⟩
    have hi := (List.getElem?_eq_some_iff.1 hs).1
    refine (hW.cell (p := ⟨g, i, none⟩) (Array.getElem?_eq_some_iff.1 hg).1).trans ?_
    rw [hf.cellAt i (by omega)]
    unfold strCells
    rw [List.getElem?_map, hs]
    rfl
theorem strs_cap {w : World} {ss : List ByteArray} {S : Nat → Prop} {A : Option Addr} {c : Nat} (h : StrsAt w ss S (.slice A ss.length c)) : ss.length ≤ c := by
  rcases h.1.2 with ⟨e, h0⟩ | ⟨g, cap, cur, e, hb, hg, hnc, hcm, hcs, htake⟩
  · omega
  · simp only [Value.slice.injEq] at e
    omega
theorem Tryd.sizeRInstr : (Tryd.prog.info? 48).map (·.size) = some 11 := by kernel_rfl

set_option maxRecDepth 100000 in
set_option maxHeartbeats 4000000 in
theorem codeNames_walk0 {w : World} {op pl : Int} {x y an bn : ByteArray} {am bm : Int} {A : Option Addr} {cap : Nat} {tt : Int} {has : Bool} {ts : List Tm} (hT : TmsAt w w.heap.size A ts) (hb : (ts.length + 2) * 24 ≤ 140737488355328) (ht : Tabs w) :
    Calls Tryd.prog 4 #[.agg #[.int .i64 op, .int .i64 pl, .string x, .string y, .string an, .int .i64 am, .string bn, .int .i64 bm, .slice A ts.length cap, .int .i64 tt, .bool has]] w fun e w' => e = .returned (.bool true) ∧ Below w.heap.size w w' := by
  have HT := Lib.hid hT
  have HL := Lib.hid hb
  have HTAB := Lib.hid ht
  obtain ⟨W0, hW0⟩ : ∃ W0, w.alloc (.cells [.int .i64 op, .int .i64 pl, .string x, .string y, .string an, .int .i64 am, .string bn, .int .i64 bm, .slice A ts.length cap, .int .i64 tt, .bool has].toArray 43) = W0 := ⟨_, rfl⟩
  have HN := Lib.hid (show Blk W0 w.heap.size [.int .i64 op, .int .i64 pl, .string x, .string y, .string an, .int .i64 am, .string bn, .int .i64 bm, .slice A ts.length cap, .int .i64 tt, .bool has] 43 from hW0 ▸ Blk.new w _ _)
  have HB0 := Lib.hid (show Below w.heap.size w W0 from hW0 ▸ (Below.refl _ _).alloc (Nat.le_refl _) _)
  have hlo : w.heap.size < W0.heap.size := HN.out.lt
  clear hT hb ht
  go_enter Tryd.func4, Tryd.ntmps4
  go_upto_region 1 with fail
  go_cut [1, 3] (fun p r W => ∃ gr, p = .pointer (some ⟨w.heap.size, 0, none⟩) ∧ r = .pointer (some ⟨gr, 0, none⟩) ∧ CnSt w [.int .i64 op, .int .i64 pl, .string x, .string y, .string an, .int .i64 am, .string bn, .int .i64 bm, .slice A ts.length cap, .int .i64 tt, .bool has] [.int .i64 op, .int .i64 0, .string x, .string y, .string an, .int .i64 am, .string bn, .int .i64 bm, (.slice none 0 0), .int .i64 0, .bool false] gr [] (.slice none 0 0) W)
  case first =>
    try rw [hW0]
    refine wp_region_held_drew (S := fun W => Blk W w.heap.size [.int .i64 op, .int .i64 pl, .string x, .string y, .string an, .int .i64 am, .string bn, .int .i64 bm, .slice A ts.length cap, .int .i64 tt, .bool has] 43) (by kernel_rfl) HN.out.drew (fun hS => ?_)
    refine wpAnyH_take (i := 0) (oi := ⟨some 9, _, _, _, _, _⟩) (v := .pointer (some ⟨w.heap.size, 0, none⟩)) rfl (by kernel_rfl) (by kernel_rfl) (by kernel_rfl) (fun _ _ _ h => h) (Or.inl ⟨by rfl, fun W _ => by go_simp⟩) hS ?_
    try simp only [Act.put, List.setIfInBounds_toArray, List.set_cons_zero, List.set_cons_succ]
    refine wpAnyH_take (i := 1) (oi := ⟨some 10, _, _, _, _, _⟩) (v := .int .i64 op) rfl (by kernel_rfl) (by kernel_rfl) (by kernel_rfl) (fun _ _ _ h => h) (Or.inl ⟨by rfl, fun W hW => by have hcx : W.cell? ⟨w.heap.size, 0, none⟩ = some (.int .i64 op) := (hW).cell 0; go_simp⟩) hS ?_
    try simp only [Act.put, List.setIfInBounds_toArray, List.set_cons_zero, List.set_cons_succ]
    refine wpAnyH_take (i := 2) (oi := ⟨some 11, _, _, _, _, _⟩) (v := .pointer (some ⟨w.heap.size, 2, none⟩)) rfl (by kernel_rfl) (by kernel_rfl) (by kernel_rfl) (fun _ _ _ h => h) (Or.inl ⟨by rfl, fun W _ => by go_simp⟩) hS ?_
    try simp only [Act.put, List.setIfInBounds_toArray, List.set_cons_zero, List.set_cons_succ]
    refine wpAnyH_take (i := 3) (oi := ⟨some 12, _, _, _, _, _⟩) (v := .string x) rfl (by kernel_rfl) (by kernel_rfl) (by kernel_rfl) (fun _ _ _ h => h) (Or.inl ⟨by rfl, fun W hW => by have hcx : W.cell? ⟨w.heap.size, 2, none⟩ = some (.string x) := (hW).cell 2; go_simp⟩) hS ?_
    try simp only [Act.put, List.setIfInBounds_toArray, List.set_cons_zero, List.set_cons_succ]
    refine wpAnyH_take (i := 4) (oi := ⟨some 13, _, _, _, _, _⟩) (v := .pointer (some ⟨w.heap.size, 3, none⟩)) rfl (by kernel_rfl) (by kernel_rfl) (by kernel_rfl) (fun _ _ _ h => h) (Or.inl ⟨by rfl, fun W _ => by go_simp⟩) hS ?_
    try simp only [Act.put, List.setIfInBounds_toArray, List.set_cons_zero, List.set_cons_succ]
    refine wpAnyH_take (i := 5) (oi := ⟨some 14, _, _, _, _, _⟩) (v := .string y) rfl (by kernel_rfl) (by kernel_rfl) (by kernel_rfl) (fun _ _ _ h => h) (Or.inl ⟨by rfl, fun W hW => by have hcx : W.cell? ⟨w.heap.size, 3, none⟩ = some (.string y) := (hW).cell 3; go_simp⟩) hS ?_
    try simp only [Act.put, List.setIfInBounds_toArray, List.set_cons_zero, List.set_cons_succ]
    refine wpAnyH_take (i := 6) (oi := ⟨some 15, _, _, _, _, _⟩) (v := .pointer (some ⟨w.heap.size, 4, none⟩)) rfl (by kernel_rfl) (by kernel_rfl) (by kernel_rfl) (fun _ _ _ h => h) (Or.inl ⟨by rfl, fun W _ => by go_simp⟩) hS ?_
    try simp only [Act.put, List.setIfInBounds_toArray, List.set_cons_zero, List.set_cons_succ]
    refine wpAnyH_take (i := 7) (oi := ⟨some 16, _, _, _, _, _⟩) (v := .agg #[.string an, .int .i64 am]) rfl (by kernel_rfl) (by kernel_rfl) (by kernel_rfl) (fun _ _ _ h => h) (yieldsIf_load_mid (cs := [.string an, .int .i64 am]) (by rfl) 40 (.tmp 15) rfl (w.heap.size) (4) (by go_simp) _ (fun W hW j v hj => by rcases j with _ | _ | j; (· cases hj; exact (hW).cell 4); (· cases hj; exact (hW).cell 5); (· simp at hj)) Tryd.underlying40 rfl Tryd.sizeTerm) hS ?_
    try simp only [Act.put, List.setIfInBounds_toArray, List.set_cons_zero, List.set_cons_succ]
    refine wpAnyH_take (i := 9) (oi := ⟨some 18, _, _, _, _, _⟩) (v := .pointer (some ⟨w.heap.size, 6, none⟩)) rfl (by kernel_rfl) (by kernel_rfl) (by kernel_rfl) (fun _ _ _ h => h) (Or.inl ⟨by rfl, fun W _ => by go_simp⟩) hS ?_
    try simp only [Act.put, List.setIfInBounds_toArray, List.set_cons_zero, List.set_cons_succ]
    refine wpAnyH_take (i := 10) (oi := ⟨some 19, _, _, _, _, _⟩) (v := .agg #[.string bn, .int .i64 bm]) rfl (by kernel_rfl) (by kernel_rfl) (by kernel_rfl) (fun _ _ _ h => h) (yieldsIf_load_mid (cs := [.string bn, .int .i64 bm]) (by rfl) 40 (.tmp 18) rfl (w.heap.size) (6) (by go_simp) _ (fun W hW j v hj => by rcases j with _ | _ | j; (· cases hj; exact (hW).cell 6); (· cases hj; exact (hW).cell 7); (· simp at hj)) Tryd.underlying40 rfl Tryd.sizeTerm) hS ?_
    try simp only [Act.put, List.setIfInBounds_toArray, List.set_cons_zero, List.set_cons_succ]
    refine AnyH.pair (i := 8) (k := 13) (o := ⟨some 17, _, _, _, _, _⟩) (u := ⟨some 3, _, _, _, _, _⟩) (by kernel_rfl) rfl rfl (by rfl) (by rfl) (fun K hK => ?_) (fun K hK => ?_)
    · go_simp
      refine (codeTerm_any _ ⟨an, am⟩).mono ?_
      rintro e x1 ⟨rfl, hbx1⟩
      have HBx1 := Lib.hid (HB0.out.drew.trans (hbx1.mono HB0.out.drew.size))
      have hSx1 : Blk x1 w.heap.size [.int .i64 op, .int .i64 pl, .string x, .string y, .string an, .int .i64 am, .string bn, .int .i64 bm, .slice A ts.length cap, .int .i64 tt, .bool has] 43 := hS.stays hbx1
      clear hbx1 hS
      have hS := hSx1
      clear hSx1
      refine hK.out _ _ hS ?_
      clear hK K
      refine AnyH.pair (i := 11) (k := 13) (o := ⟨some 20, _, _, _, _, _⟩) (u := ⟨some 3, _, _, _, _, _⟩) (by kernel_rfl) rfl rfl (by rfl) (by rfl) (fun K hK => ?_) (fun K hK => ?_)
      · go_simp
        refine (codeTerm_any _ ⟨bn, bm⟩).mono ?_
        rintro e x2 ⟨rfl, hbx2⟩
        have HBx2 := Lib.hid (HBx1.out.trans (hbx2.mono HBx1.out.size))
        have hSx2 : Blk x2 w.heap.size [.int .i64 op, .int .i64 pl, .string x, .string y, .string an, .int .i64 am, .string bn, .int .i64 bm, .slice A ts.length cap, .int .i64 tt, .bool has] 43 := hS.stays hbx2
        clear hbx2 hS
        have hS := hSx2
        clear hSx2
        refine hK.out _ _ hS ?_
        clear hK K
        refine wpAnyH_take (i := 12) (oi := ⟨some 21, _, _, _, _, _⟩) (v := .agg #[.int .i64 op, .int .i64 0, .string x, .string y, .string an, .int .i64 am, .string bn, .int .i64 bm, (.slice none 0 0), .int .i64 0, .bool false]) rfl (by kernel_rfl) (by kernel_rfl) (by kernel_rfl) (fun _ _ _ h => h) (Or.inl ⟨by rfl, fun W _ => by go_simp⟩) hS ?_
        try simp only [Act.put, List.setIfInBounds_toArray, List.set_cons_zero, List.set_cons_succ]
        refine AnyH.only (i := 13) (o := ⟨some 3, _, _, _, _, _⟩) (by kernel_rfl) rfl (by rfl) (fun K hK => ?_)
        go_simp
        have hGx3 := hS.lt
        have HBx3 := Lib.hid (HBx2.out.alloc HBx2.out.size (.cells [.int .i64 0, .int .i64 0, .string ⟨#[]⟩, .string ⟨#[]⟩, .string ⟨#[]⟩, .int .i64 0, .string ⟨#[]⟩, .int .i64 0, .slice none 0 0, .int .i64 0, .bool false].toArray 48))
        have HZx3 := Lib.hid (Blk.new x2 [.int .i64 0, .int .i64 0, .string ⟨#[]⟩, .string ⟨#[]⟩, .string ⟨#[]⟩, .int .i64 0, .string ⟨#[]⟩, .int .i64 0, .slice none 0 0, .int .i64 0, .bool false] 48)
        have hSx3 : Blk (x2.alloc (.cells [.int .i64 0, .int .i64 0, .string ⟨#[]⟩, .string ⟨#[]⟩, .string ⟨#[]⟩, .int .i64 0, .string ⟨#[]⟩, .int .i64 0, .slice none 0 0, .int .i64 0, .bool false].toArray 48)) w.heap.size [.int .i64 op, .int .i64 pl, .string x, .string y, .string an, .int .i64 am, .string bn, .int .i64 bm, .slice A ts.length cap, .int .i64 tt, .bool has] 43 := hS.alloc _
        clear hS
        have hS := hSx3
        clear hSx3
        refine hK.out _ _ hS ?_
        clear hK K
        try simp only [Act.put, List.setIfInBounds_toArray, List.set_cons_zero, List.set_cons_succ]
        refine AnyH.only (i := 14) (o := ⟨none, _, _, _, _, _⟩) (by kernel_rfl) rfl (by rfl) (fun K hK => ?_)
        refine wp_store_blk 48 (.tmp 3) (.tmp 21) rfl (x2.heap.size) [.int .i64 op, .int .i64 0, .string x, .string y, .string an, .int .i64 am, .string bn, .int .i64 bm, (.slice none 0 0), .int .i64 0, .bool false] rfl rfl HZx3.out Tryd.sizeRInstr rfl (by intro u hu; simp only [List.mem_cons, List.not_mem_nil, or_false] at hu; rcases hu with rfl | rfl | rfl | rfl | rfl | rfl | rfl | rfl | rfl | rfl | rfl <;> rfl) ?_
        have hSs : Blk (World.setRow (x2.alloc (.cells [.int .i64 0, .int .i64 0, .string ⟨#[]⟩, .string ⟨#[]⟩, .string ⟨#[]⟩, .int .i64 0, .string ⟨#[]⟩, .int .i64 0, .slice none 0 0, .int .i64 0, .bool false].toArray 48)) (x2.heap.size) ([.int .i64 op, .int .i64 0, .string x, .string y, .string an, .int .i64 am, .string bn, .int .i64 bm, (.slice none 0 0), .int .i64 0, .bool false]).toArray) w.heap.size [.int .i64 op, .int .i64 pl, .string x, .string y, .string an, .int .i64 am, .string bn, .int .i64 bm, .slice A ts.length cap, .int .i64 tt, .bool has] 43 := hS.rowOther _ _ (by omega)
        refine hK.out _ _ hSs ?_
        clear hK K
        try simp only [Act.put]
        refine wpAnyH_done (by kernel_rfl) ?_ _
        go_wp2_with fail
        go_meet
        exact ⟨x2.heap.size, rfl, rfl, hSs, HZx3.out.rowSame _, by omega, World.ownsRow_nil _ _ _ _, (fun g h => by simp [Value.ownBlock] at h), Below.row HBx3.out (by omega) _⟩
      · go_simp
        have hGx4 := hS.lt
        have HBx4 := Lib.hid (HBx1.out.alloc HBx1.out.size (.cells [.int .i64 0, .int .i64 0, .string ⟨#[]⟩, .string ⟨#[]⟩, .string ⟨#[]⟩, .int .i64 0, .string ⟨#[]⟩, .int .i64 0, .slice none 0 0, .int .i64 0, .bool false].toArray 48))
        have HZx4 := Lib.hid (Blk.new x1 [.int .i64 0, .int .i64 0, .string ⟨#[]⟩, .string ⟨#[]⟩, .string ⟨#[]⟩, .int .i64 0, .string ⟨#[]⟩, .int .i64 0, .slice none 0 0, .int .i64 0, .bool false] 48)
        have hSx4 : Blk (x1.alloc (.cells [.int .i64 0, .int .i64 0, .string ⟨#[]⟩, .string ⟨#[]⟩, .string ⟨#[]⟩, .int .i64 0, .string ⟨#[]⟩, .int .i64 0, .slice none 0 0, .int .i64 0, .bool false].toArray 48)) w.heap.size [.int .i64 op, .int .i64 pl, .string x, .string y, .string an, .int .i64 am, .string bn, .int .i64 bm, .slice A ts.length cap, .int .i64 tt, .bool has] 43 := hS.alloc _
        clear hS
        have hS := hSx4
        clear hSx4
        refine hK.out _ _ hS ?_
        clear hK K
        try simp only [Act.put, List.setIfInBounds_toArray, List.set_cons_zero, List.set_cons_succ]
        refine AnyH.only (i := 11) (o := ⟨some 20, _, _, _, _, _⟩) (by kernel_rfl) rfl (by rfl) (fun K hK => ?_)
        go_simp
        refine (codeTerm_any _ ⟨bn, bm⟩).mono ?_
        rintro e x5 ⟨rfl, hbx5⟩
        have HBx5 := Lib.hid (HBx4.out.trans (hbx5.mono HBx4.out.size))
        have HZx5 := Lib.hid (HZx4.out.stays hbx5)
        have hSx5 : Blk x5 w.heap.size [.int .i64 op, .int .i64 pl, .string x, .string y, .string an, .int .i64 am, .string bn, .int .i64 bm, .slice A ts.length cap, .int .i64 tt, .bool has] 43 := hS.stays hbx5
        clear hbx5 hS
        have hS := hSx5
        clear hSx5
        refine hK.out _ _ hS ?_
        clear hK K
        refine wpAnyH_take (i := 12) (oi := ⟨some 21, _, _, _, _, _⟩) (v := .agg #[.int .i64 op, .int .i64 0, .string x, .string y, .string an, .int .i64 am, .string bn, .int .i64 bm, (.slice none 0 0), .int .i64 0, .bool false]) rfl (by kernel_rfl) (by kernel_rfl) (by kernel_rfl) (fun _ _ _ h => h) (Or.inl ⟨by rfl, fun W _ => by go_simp⟩) hS ?_
        try simp only [Act.put, List.setIfInBounds_toArray, List.set_cons_zero, List.set_cons_succ]
        refine AnyH.only (i := 14) (o := ⟨none, _, _, _, _, _⟩) (by kernel_rfl) rfl (by rfl) (fun K hK => ?_)
        refine wp_store_blk 48 (.tmp 3) (.tmp 21) rfl (x1.heap.size) [.int .i64 op, .int .i64 0, .string x, .string y, .string an, .int .i64 am, .string bn, .int .i64 bm, (.slice none 0 0), .int .i64 0, .bool false] rfl rfl HZx5.out Tryd.sizeRInstr rfl (by intro u hu; simp only [List.mem_cons, List.not_mem_nil, or_false] at hu; rcases hu with rfl | rfl | rfl | rfl | rfl | rfl | rfl | rfl | rfl | rfl | rfl <;> rfl) ?_
        have hSs : Blk (World.setRow x5 (x1.heap.size) ([.int .i64 op, .int .i64 0, .string x, .string y, .string an, .int .i64 am, .string bn, .int .i64 bm, (.slice none 0 0), .int .i64 0, .bool false]).toArray) w.heap.size [.int .i64 op, .int .i64 pl, .string x, .string y, .string an, .int .i64 am, .string bn, .int .i64 bm, .slice A ts.length cap, .int .i64 tt, .bool has] 43 := hS.rowOther _ _ (by omega)
        refine hK.out _ _ hSs ?_
        clear hK K
        try simp only [Act.put]
        refine wpAnyH_done (by kernel_rfl) ?_ _
        go_wp2_with fail
        go_meet
        exact ⟨x1.heap.size, rfl, rfl, hSs, HZx5.out.rowSame _, by omega, World.ownsRow_nil _ _ _ _, (fun g h => by simp [Value.ownBlock] at h), Below.row HBx5.out (by omega) _⟩
    · go_simp
      have hGx6 := hS.lt
      have HBx6 := Lib.hid (HB0.out.drew.alloc HB0.out.drew.size (.cells [.int .i64 0, .int .i64 0, .string ⟨#[]⟩, .string ⟨#[]⟩, .string ⟨#[]⟩, .int .i64 0, .string ⟨#[]⟩, .int .i64 0, .slice none 0 0, .int .i64 0, .bool false].toArray 48))
      have HZx6 := Lib.hid (Blk.new W0.drew [.int .i64 0, .int .i64 0, .string ⟨#[]⟩, .string ⟨#[]⟩, .string ⟨#[]⟩, .int .i64 0, .string ⟨#[]⟩, .int .i64 0, .slice none 0 0, .int .i64 0, .bool false] 48)
      have hSx6 : Blk (W0.drew.alloc (.cells [.int .i64 0, .int .i64 0, .string ⟨#[]⟩, .string ⟨#[]⟩, .string ⟨#[]⟩, .int .i64 0, .string ⟨#[]⟩, .int .i64 0, .slice none 0 0, .int .i64 0, .bool false].toArray 48)) w.heap.size [.int .i64 op, .int .i64 pl, .string x, .string y, .string an, .int .i64 am, .string bn, .int .i64 bm, .slice A ts.length cap, .int .i64 tt, .bool has] 43 := hS.alloc _
      clear hS
      have hS := hSx6
      clear hSx6
      refine hK.out _ _ hS ?_
      clear hK K
      try simp only [Act.put, List.setIfInBounds_toArray, List.set_cons_zero, List.set_cons_succ]
      refine AnyH.only (i := 8) (o := ⟨some 17, _, _, _, _, _⟩) (by kernel_rfl) rfl (by rfl) (fun K hK => ?_)
      go_simp
      refine (codeTerm_any _ ⟨an, am⟩).mono ?_
      rintro e x7 ⟨rfl, hbx7⟩
      have HBx7 := Lib.hid (HBx6.out.trans (hbx7.mono HBx6.out.size))
      have HZx7 := Lib.hid (HZx6.out.stays hbx7)
      have hSx7 : Blk x7 w.heap.size [.int .i64 op, .int .i64 pl, .string x, .string y, .string an, .int .i64 am, .string bn, .int .i64 bm, .slice A ts.length cap, .int .i64 tt, .bool has] 43 := hS.stays hbx7
      clear hbx7 hS
      have hS := hSx7
      clear hSx7
      refine hK.out _ _ hS ?_
      clear hK K
      refine AnyH.only (i := 11) (o := ⟨some 20, _, _, _, _, _⟩) (by kernel_rfl) rfl (by rfl) (fun K hK => ?_)
      go_simp
      refine (codeTerm_any _ ⟨bn, bm⟩).mono ?_
      rintro e x8 ⟨rfl, hbx8⟩
      have HBx8 := Lib.hid (HBx7.out.trans (hbx8.mono HBx7.out.size))
      have HZx8 := Lib.hid (HZx7.out.stays hbx8)
      have hSx8 : Blk x8 w.heap.size [.int .i64 op, .int .i64 pl, .string x, .string y, .string an, .int .i64 am, .string bn, .int .i64 bm, .slice A ts.length cap, .int .i64 tt, .bool has] 43 := hS.stays hbx8
      clear hbx8 hS
      have hS := hSx8
      clear hSx8
      refine hK.out _ _ hS ?_
      clear hK K
      refine wpAnyH_take (i := 12) (oi := ⟨some 21, _, _, _, _, _⟩) (v := .agg #[.int .i64 op, .int .i64 0, .string x, .string y, .string an, .int .i64 am, .string bn, .int .i64 bm, (.slice none 0 0), .int .i64 0, .bool false]) rfl (by kernel_rfl) (by kernel_rfl) (by kernel_rfl) (fun _ _ _ h => h) (Or.inl ⟨by rfl, fun W _ => by go_simp⟩) hS ?_
      try simp only [Act.put, List.setIfInBounds_toArray, List.set_cons_zero, List.set_cons_succ]
      refine AnyH.only (i := 14) (o := ⟨none, _, _, _, _, _⟩) (by kernel_rfl) rfl (by rfl) (fun K hK => ?_)
      refine wp_store_blk 48 (.tmp 3) (.tmp 21) rfl (W0.drew.heap.size) [.int .i64 op, .int .i64 0, .string x, .string y, .string an, .int .i64 am, .string bn, .int .i64 bm, (.slice none 0 0), .int .i64 0, .bool false] rfl rfl HZx8.out Tryd.sizeRInstr rfl (by intro u hu; simp only [List.mem_cons, List.not_mem_nil, or_false] at hu; rcases hu with rfl | rfl | rfl | rfl | rfl | rfl | rfl | rfl | rfl | rfl | rfl <;> rfl) ?_
      have hSs : Blk (World.setRow x8 (W0.drew.heap.size) ([.int .i64 op, .int .i64 0, .string x, .string y, .string an, .int .i64 am, .string bn, .int .i64 bm, (.slice none 0 0), .int .i64 0, .bool false]).toArray) w.heap.size [.int .i64 op, .int .i64 pl, .string x, .string y, .string an, .int .i64 am, .string bn, .int .i64 bm, .slice A ts.length cap, .int .i64 tt, .bool has] 43 := hS.rowOther _ _ (by omega)
      refine hK.out _ _ hSs ?_
      clear hK K
      try simp only [Act.put]
      refine wpAnyH_done (by kernel_rfl) ?_ _
      go_wp2_with fail
      go_meet
      exact ⟨W0.drew.heap.size, rfl, rfl, hSs, HZx8.out.rowSame _, by omega, World.ownsRow_nil _ _ _ _, (fun g h => by simp [Value.ownBlock] at h), Below.row HBx8.out (by omega) _⟩
  case rest =>
    clear hW0 HN HB0 hlo
    obtain ⟨gr, rfl, rfl, hc0⟩ := hcut
    obtain ⟨i2, z2, I2⟩ := Tryd.rtermInfo
    have HC0 := Lib.hid hc0
    have c8 := hc0.n.cell 8
    simp only [List.getElem?_cons_zero, List.getElem?_cons_succ] at c8
    have hz0 := hc0.n.lt
    have hl1 : ts.length ≤ 5864062014804 := by have := HL.out; omega
    clear hc0
    go_wp2_with fail
    go_loopg [25] ts.length (fun gk i wr => CnRel w [.int .i64 op, .int .i64 pl, .string x, .string y, .string an, .int .i64 am, .string bn, .int .i64 bm, .slice A ts.length cap, .int .i64 tt, .bool has] (fun v => [.int .i64 op, .int .i64 0, .string x, .string y, .string an, .int .i64 am, .string bn, .int .i64 bm, v, .int .i64 0, .bool false]) gr ts gk i wr)
    case atStart => exact ⟨0, _, by omega, by omega, rfl, by rw [List.take_zero]; exact HC0.out⟩
    case round =>
      obtain ⟨k, v, hk, hgk, rfl, hst⟩ := hrel
      obtain ⟨va, vn, vc, rfl⟩ : ∃ a n c, v = .slice a n c := by
        rcases hst.t.2 with ⟨h, _⟩ | ⟨_, _, _, h, _⟩ <;> exact ⟨_, _, _, h⟩
      have HS := Lib.hid hst
      clear hst
      by_cases hlt : k < ts.length
      · obtain ⟨t, htk⟩ : ∃ t, ts[k]? = some t := ⟨ts[k], List.getElem?_eq_getElem hlt⟩
        obtain ⟨b, off, rfl, hblt, hcell⟩ := HT.out (by omega)
        have HR := Lib.hid (show wr.rangeAt b (off + k * 2) (tmCells t) from fun j u hj => by
          rcases j with _ | _ | j
          · cases hj; exact (HS.out.b.cell (p := ⟨b, off + k * 2, none⟩) hblt).trans (hcell k t htk).1
          · cases hj; exact (HS.out.b.cell (p := ⟨b, off + k * 2 + 1, none⟩) hblt).trans (hcell k t htk).2
          · simp [tmCells] at hj)
        have HTK := Lib.hid (show ts.take (k + 1) = ts.take k ++ [t] from by rw [List.take_succ_eq_append_getElem hlt, (List.getElem?_eq_some_iff.1 htk).2])
        have HTL := Lib.hid (show (ts.take k).length = k from by simp; omega)
        obtain ⟨tn, tm⟩ := t
        clear hcell htk
        have hone : ∀ u ∈ tmCells ⟨tn, tm⟩, u.oneCell' = true := fun u hu => by simp only [tmCells, List.mem_cons, List.not_mem_nil, or_false] at hu; rcases hu with rfl | rfl <;> rfl
        have hbr : b < wr.heap.size := by have := HS.out.b.size; omega
        have HKN0 := Lib.hid (show Value.ownBlock (.slice va vn vc) ≠ some wr.heap.size from fun e => by have := (HS.out.t.lt _ e).2; omega)
        obtain ⟨W5, kb, hW5, hkb, HS5, HK5⟩ : ∃ (W5 : World) (kb : Nat), wr.alloc (.cells [.string tn, .int .i64 tm].toArray 40) = W5 ∧ kb = wr.heap.size ∧ Hid (CnSt w [.int .i64 op, .int .i64 pl, .string x, .string y, .string an, .int .i64 am, .string bn, .int .i64 bm, .slice (some ⟨b, off, none⟩) ts.length cap, .int .i64 tt, .bool has] [.int .i64 op, .int .i64 0, .string x, .string y, .string an, .int .i64 am, .string bn, .int .i64 bm, (.slice va vn vc), .int .i64 0, .bool false] gr (ts.take k) (.slice va vn vc) W5) ∧ Hid (Blk W5 kb [.string tn, .int .i64 tm] 40) := ⟨_, _, rfl, rfl, Lib.hid (HS.out.alloc _), Lib.hid (Blk.new wr _ _)⟩
        go_upto_region 5 with (first
          | ((with_reducible refine at_ld 40 (.tmp 27) ?_); refine wpList_load_mid rfl 40 (.tmp 27) rfl b (off + k * 2) rfl [.string tn, .int .i64 tm] _ HR.out Tryd.underlying40 rfl Tryd.sizeTerm ?_)
          | ((with_reducible refine at_st 40 (.tmp 5) ?_); refine wpList_store_new rfl 40 (.tmp 5) (.tmp 28) rfl [.string tn, .int .i64 tm] (old := [.string ⟨#[]⟩, .int .i64 0]) rfl rfl Tryd.sizeTerm rfl hone ?_))
        try rw [hW5]
        have HKN := Lib.hid (show Value.ownBlock (.slice va vn vc) ≠ some kb from hkb ▸ HKN0.out)
        rw [← hkb]
        clear hW5 hkb HR HS
        have hlo := HS5.out.lo
        refine AnyE.begin2 (S := fun W => Blk W gr [.int .i64 op, .int .i64 0, .string x, .string y, .string an, .int .i64 am, .string bn, .int .i64 bm, (.slice va vn vc), .int .i64 0, .bool false] 48 ∧ Blk W kb [.string tn, .int .i64 tm] 40) (by kernel_rfl) ⟨HS5.out.drew.r, HK5.out.drew⟩ (fun hS => ?_)
        refine AnyE.take (i := 0) (v := .pointer (some ⟨gr, 8, none⟩)) rfl (by kernel_rfl) (by kernel_rfl) (by kernel_rfl) (by kernel_rfl) (fun _ _ _ h => h) (Or.inl ⟨by rfl, fun W _ => by go_simp⟩) hS ?_
        refine AnyE.take (i := 1) (v := .slice va vn vc) rfl (by kernel_rfl) (by kernel_rfl) (by kernel_rfl) (by kernel_rfl) (fun _ _ _ h => h) (Or.inl ⟨by rfl, fun W hW => by have hcx : W.cell? ⟨gr, 8, none⟩ = some (.slice va vn vc) := (hW.1).cell 8; go_simp⟩) hS ?_
        refine AnyE.take (i := 2) (v := .agg #[.string tn, .int .i64 tm]) rfl (by kernel_rfl) (by kernel_rfl) (by kernel_rfl) (by kernel_rfl) (fun _ _ _ h => h) (yieldsIf_load_mid (cs := [.string tn, .int .i64 tm]) (by rfl) 40 (.tmp 5) rfl (kb) 0 rfl _ (fun W hW j v hj => by rw [Nat.zero_add, (hW.2).cell j]; exact hj) Tryd.underlying40 rfl Tryd.sizeTerm) hS ?_
        refine AnyE.one (i := 3) (by kernel_rfl) rfl (by rfl) (fun K hK => ?_)
        go_simp
        refine (codeTerm_any _ ⟨tn, tm⟩).mono ?_
        rintro e x1 ⟨rfl, hb1⟩
        have HS6 := Lib.hid (HS5.out.drew.call hb1)
        have hS1 : Blk x1 gr [.int .i64 op, .int .i64 0, .string x, .string y, .string an, .int .i64 am, .string bn, .int .i64 bm, (.slice va vn vc), .int .i64 0, .bool false] 48 ∧ Blk x1 kb [.string tn, .int .i64 tm] 40 := ⟨hS.1.stays hb1, hS.2.stays hb1⟩
        clear hS hb1
        have hS := hS1
        clear hS1
        refine hK.out _ _ (fun _ => hS) ?_
        clear hK K
        refine AnyE.one (i := 4) (by kernel_rfl) rfl (by rfl) (fun K hK => ?_)
        go_simp
        have HS7 := Lib.hid (HS6.out.alloc (.cells [.string tn, .int .i64 tm].toArray 44))
        have HN7 := Lib.hid (Blk.new x1 [.string tn, .int .i64 tm] 44)
        have hS1 : Blk (x1.alloc (.cells [.string tn, .int .i64 tm].toArray 44)) gr [.int .i64 op, .int .i64 0, .string x, .string y, .string an, .int .i64 am, .string bn, .int .i64 bm, (.slice va vn vc), .int .i64 0, .bool false] 48 ∧ Blk (x1.alloc (.cells [.string tn, .int .i64 tm].toArray 44)) kb [.string tn, .int .i64 tm] 40 := ⟨hS.1.alloc _, hS.2.alloc _⟩
        clear hS
        have hS := hS1
        clear hS1
        refine hK.out _ _ (fun _ => hS) ?_
        clear hK K
        refine AnyE.one (i := 5) (by kernel_rfl) rfl (by rfl) (fun K hK => ?_)
        refine wp_append_tm (u := ⟨tn, tm⟩) (b := x1.heap.size) (.tmp 30) (.tmp 33) rfl I2 rfl HS7.out.t rfl HN7.out (by have := HTL.out; unfold maxLen; omega) (by have := HTL.out; have := HL.out; omega) (fun v' x2 ht2 hg2 hl2 => ?_)
        have HP := Lib.hid (HS7.out.put hg2 ht2 hl2)
        have hne : some gr ≠ Value.ownBlock (.slice va vn vc) := fun e => by have := HS7.out.s gr e.symm; omega
        have hgr2 := HS7.out.r.grown hg2 hne
        have hne2 : some kb ≠ Value.ownBlock (.slice va vn vc) := fun e => by have h1 := HS5.out.t.lt kb e.symm; have h2 := HKN.out; exact h2 e.symm
        have hS1 : Blk x2 gr [.int .i64 op, .int .i64 0, .string x, .string y, .string an, .int .i64 am, .string bn, .int .i64 bm, (.slice va vn vc), .int .i64 0, .bool false] 48 ∧ Blk x2 kb [.string tn, .int .i64 tm] 40 := ⟨hgr2, hS.2.grown hg2 hne2⟩
        obtain ⟨va2, vn2, vc2, rfl⟩ : ∃ a n c, v' = .slice a n c := by
          rcases ht2.2 with ⟨h, _⟩ | ⟨_, _, _, h, _⟩ <;> exact ⟨_, _, _, h⟩
        have hcx := hgr2.cell 8
        simp only [List.getElem?_cons_zero, List.getElem?_cons_succ] at hcx
        have hfx := hgr2.frozen 8
        clear hS hg2 ht2 hl2 hgr2
        have hS := hS1
        clear hS1
        refine hK.out _ _ (fun _ => hS) ?_
        clear hK K
        refine AnyE.take (i := 6) (v := .pointer (some ⟨gr, 8, none⟩)) rfl (by kernel_rfl) (by kernel_rfl) (by kernel_rfl) (by kernel_rfl) (fun _ _ _ h => h) (Or.inl ⟨by rfl, fun W _ => by go_simp⟩) hS ?_
        refine AnyE.one (i := 7) (by kernel_rfl) rfl (by rfl) (fun K hK => ?_)
        go_simp
        refine hK.out _ _ (fun h => absurd rfl h) ?_
        clear hK K
        refine AnyE.done (by kernel_rfl) ?_ _
        clear hS hcx hfx
        go_wp2_with fail
        go_roundg (gk - 1)
        case measure => omega
        case rel =>
          refine ⟨k + 1, .slice va2 vn2 vc2, by omega, by omega, by go_num, ?_⟩
          rw [HTK.out]
          exact HP.out
      · have hE : ts.take k = ts := List.take_of_length_le (by omega)
        have HF := Lib.hid (show CnSt w [.int .i64 op, .int .i64 pl, .string x, .string y, .string an, .int .i64 am, .string bn, .int .i64 bm, .slice A ts.length cap, .int .i64 tt, .bool has] [.int .i64 op, .int .i64 0, .string x, .string y, .string an, .int .i64 am, .string bn, .int .i64 bm, (.slice va vn vc), .int .i64 0, .bool false] gr ts (.slice va vn vc) wr from by have := HS.out; rwa [hE] at this)
        clear HS hE
        obtain ⟨A2, c2, hv2, hT2, _⟩ := TmsAt.own HF.out.t
        obtain ⟨rfl, rfl, rfl⟩ : va = A2 ∧ vn = ts.length ∧ vc = c2 := by simpa using hv2
        have HT2 := Lib.hid hT2
        clear hv2 hT2
        go_upto_region 7 with fail
        refine wp_region_held_drew (S := fun W => Blk W w.heap.size [.int .i64 op, .int .i64 pl, .string x, .string y, .string an, .int .i64 am, .string bn, .int .i64 bm, .slice A ts.length cap, .int .i64 tt, .bool has] 43 ∧ Blk W gr [.int .i64 op, .int .i64 0, .string x, .string y, .string an, .int .i64 am, .string bn, .int .i64 bm, (.slice va ts.length vc), .int .i64 0, .bool false] 48) (by kernel_rfl) ⟨HF.out.drew.n, HF.out.drew.r⟩ (fun hS => ?_)
        refine wpAnyH_take (i := 0) (oi := ⟨some 37, _, _, _, _, _⟩) (v := .agg #[.int .i64 op, .int .i64 pl, .string x, .string y, .string an, .int .i64 am, .string bn, .int .i64 bm, .slice A ts.length cap, .int .i64 tt, .bool has]) rfl (by kernel_rfl) (by kernel_rfl) (by kernel_rfl) (fun _ _ _ h => h) (yieldsIf_load_mid (cs := [.int .i64 op, .int .i64 pl, .string x, .string y, .string an, .int .i64 am, .string bn, .int .i64 bm, .slice A ts.length cap, .int .i64 tt, .bool has]) (by rfl) 43 (.tmp 1) rfl (w.heap.size) 0 (by go_simp) _ (fun W hW j v hj => by rw [Nat.zero_add, (hW.1).cell j]; exact hj) Tryd.underlying43 rfl Tryd.sizeInstr) hS ?_
        try simp only [Act.put, List.setIfInBounds_toArray, List.set_cons_zero, List.set_cons_succ]
        refine wpAnyH_take (i := 2) (oi := ⟨some 39, _, _, _, _, _⟩) (v := .agg #[.int .i64 op, .int .i64 0, .string x, .string y, .string an, .int .i64 am, .string bn, .int .i64 bm, (.slice va ts.length vc), .int .i64 0, .bool false]) rfl (by kernel_rfl) (by kernel_rfl) (by kernel_rfl) (fun _ _ _ h => h) (yieldsIf_load_mid (cs := [.int .i64 op, .int .i64 0, .string x, .string y, .string an, .int .i64 am, .string bn, .int .i64 bm, (.slice va ts.length vc), .int .i64 0, .bool false]) (by rfl) 48 (.tmp 3) rfl (gr) 0 (by go_simp) _ (fun W hW j v hj => by rw [Nat.zero_add, (hW.2).cell j]; exact hj) Tryd.underlying48 rfl Tryd.sizeRInstr) hS ?_
        try simp only [Act.put, List.setIfInBounds_toArray, List.set_cons_zero, List.set_cons_succ]
        refine AnyH.only (i := 1) (o := ⟨some 38, _, _, _, _, _⟩) (by kernel_rfl) rfl (by rfl) (fun K hK => ?_)
        go_simp
        refine (codeNames_any (op := op) (pl := pl) (x := x) (y := y) (a := ⟨an, am⟩) (b := ⟨bn, bm⟩) (cap := cap) (tt := tt) (has := has) ((HT.out.below HF.out.drew.b (Nat.le_refl _)).up HF.out.drew.b.size) HL.out).mono ?_
        rintro e x1 ⟨n1, rfl, hn1, hb1⟩
        have HF1 := Lib.hid (HF.out.drew.call hb1)
        have HN1 := Lib.hid hn1
        have hS1 : Blk x1 w.heap.size [.int .i64 op, .int .i64 pl, .string x, .string y, .string an, .int .i64 am, .string bn, .int .i64 bm, .slice A ts.length cap, .int .i64 tt, .bool has] 43 ∧ Blk x1 gr [.int .i64 op, .int .i64 0, .string x, .string y, .string an, .int .i64 am, .string bn, .int .i64 bm, (.slice va ts.length vc), .int .i64 0, .bool false] 48 := ⟨hS.1.stays hb1, hS.2.stays hb1⟩
        have HT3 := Lib.hid (show TmsAt x1 x1.heap.size va ts from (TmsAt.below (w := wr.drew) HT2.out hb1 (Nat.le_refl _)).up hb1.size)
        obtain ⟨p1, q1, rfl⟩ := hn1.slice
        clear hS hb1 hn1
        have hS := hS1
        clear hS1
        refine hK.out _ _ hS ?_
        clear hK K
        try simp only [Act.put, List.setIfInBounds_toArray, List.set_cons_zero, List.set_cons_succ]
        refine AnyH.only (i := 3) (o := ⟨some 40, _, _, _, _, _⟩) (by kernel_rfl) rfl (by rfl) (fun K hK => ?_)
        go_simp
        refine (refNames_any (op := op) (pl := 0) (x := x) (y := y) (a := ⟨an, am⟩) (b := ⟨bn, bm⟩) (cap := vc) (tt := 0) (has := false) HT3.out HL.out).mono ?_
        rintro e x2 ⟨n2, rfl, hn2, hb2⟩
        have HF2 := Lib.hid (HF1.out.call hb2)
        have HN3 := Lib.hid (HN1.out.below hb2)
        have HN2 := Lib.hid hn2
        have hS1 : Blk x2 w.heap.size [.int .i64 op, .int .i64 pl, .string x, .string y, .string an, .int .i64 am, .string bn, .int .i64 bm, .slice A ts.length cap, .int .i64 tt, .bool has] 43 ∧ Blk x2 gr [.int .i64 op, .int .i64 0, .string x, .string y, .string an, .int .i64 am, .string bn, .int .i64 bm, (.slice va ts.length vc), .int .i64 0, .bool false] 48 := ⟨hS.1.stays hb2, hS.2.stays hb2⟩
        obtain ⟨p2, q2, rfl⟩ := hn2.slice
        clear hS hb2 hn2
        have hS := hS1
        clear hS1
        refine hK.out _ _ hS ?_
        clear hK K
        try simp only [Act.put, List.setIfInBounds_toArray, List.set_cons_zero, List.set_cons_succ]
        refine wpAnyH_take (i := 4) (oi := ⟨some 6, _, _, _, _, _⟩) (v := .slice p1 (namesI op y (⟨an, am⟩ :: ⟨bn, bm⟩ :: ts)).length q1) rfl (by kernel_rfl) (by kernel_rfl) (by kernel_rfl) (fun _ _ _ h => h) (Or.inl ⟨by rfl, fun W _ => by go_simp⟩) hS ?_
        try simp only [Act.put, List.setIfInBounds_toArray, List.set_cons_zero, List.set_cons_succ]
        refine wpAnyH_take (i := 5) (oi := ⟨some 7, _, _, _, _, _⟩) (v := .slice p2 (namesI op y (⟨an, am⟩ :: ⟨bn, bm⟩ :: ts)).length q2) rfl (by kernel_rfl) (by kernel_rfl) (by kernel_rfl) (fun _ _ _ h => h) (Or.inl ⟨by rfl, fun W _ => by go_simp⟩) hS ?_
        try simp only [Act.put, List.setIfInBounds_toArray, List.set_cons_zero, List.set_cons_succ]
        refine wpAnyH_done (by kernel_rfl) ?_ _
        clear hS
        have HTB := Lib.hid (HTAB.out.below HF2.out.b HTAB.out.size)
        have HBN := Lib.hid HF2.out.b
        have hnl : (namesI op y (⟨an, am⟩ :: ⟨bn, bm⟩ :: ts)).length ≤ ts.length + 3 := by have := namesI_len op y (⟨an, am⟩ :: ⟨bn, bm⟩ :: ts); simpa using this
        generalize namesI op y (⟨an, am⟩ :: ⟨bn, bm⟩ :: ts) = NS at *
        clear HF HF1 HF2 HN1 HT2 HT3 HC0
        go_wp2_with fail
        refine (wakes7_any _ HTB.out).mono ?_
        rintro e x3 ⟨rfl, hb3⟩
        have HB3 := Lib.hid (HBN.out.trans (hb3.mono HBN.out.size))
        have HN4 := Lib.hid (HN3.out.below hb3)
        have HN5 := Lib.hid (HN2.out.below hb3)
        clear hb3
        go_wp2_with fail
        go_loopg [52] NS.length (fun gk i wr => CnLp x3 NS.length gk i wr)
        case atStart => exact ⟨0, by omega, by omega, rfl, Below.refl _ _⟩
        case round =>
          rename World => wj
          obtain ⟨j, hj, hgj, rfl, hbj⟩ := hrel
          have HBJ := Lib.hid hbj
          clear hbj
          by_cases hjl : j < NS.length
          · obtain ⟨g1, rfl, e1⟩ := strs_at HN4.out hjl
            obtain ⟨g2, rfl, e2⟩ := strs_at HN5.out hjl
            have f1 := e1 wj HBJ.out j NS[j] (List.getElem?_eq_getElem hjl)
            have f2 := e2 wj HBJ.out j NS[j] (List.getElem?_eq_getElem hjl)
            generalize NS[j] = sj at f1 f2
            clear e1 e2
            have hq1 := strs_cap HN4.out
            have hq2 := strs_cap HN5.out
            go_wp2_with fail
            go_quiet (fail)
            go_wp2_with fail
            go_roundg (gk - 1)
            case measure => omega
            case rel => exact ⟨j + 1, by omega, by omega, by go_num, below_nq2 HBJ.out _⟩
          · go_wp2_with fail
            go_ret
            exact ⟨rfl, HB3.out.trans (HBJ.out.mono HB3.out.size)⟩

end Go.Proofs.YtnmpfpnldcgbaaaDoor
