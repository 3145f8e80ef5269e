/- Proved here: for every list of facts, of values and of numbers that lychgatelaw13.HeapOver is called with, in every memory, the call returns true and its arguments read as before. No conditions. -/
import Derived.Test.YtejnjaikalckiaaHCe
import Derived.Test.YtejnjaikalckiaaHCloseO
namespace Go.Proofs.Ytejnjaikalckiaa
open Go.ChangeShapes Go.WideShapes Go.ChangeAt Go.RowKit

/- The numbers of the variables: 0, then those that came in. -/
def valsL (zs : List Int) (N k : Nat) : List Int := 0 :: ((zs.take k).map cutI ++ List.replicate (N - k) 0)
theorem valsL_len (zs : List Int) (N k : Nat) (hk : k ≤ N) (hz : N ≤ zs.length) : (valsL zs N k).length = N + 1 := by simp [valsL]; omega
theorem valsL_step (zs : List Int) (N k : Nat) (hk : k < N) {z : Int} (hz : zs[k]? = some z) : (valsL zs N k).set (k + 1) (cutI z) = valsL zs N (k + 1) := by
  have hl := (List.getElem?_eq_some_iff.1 hz).1
  unfold valsL
  rw [List.set_cons_succ, List.set_append_right _ _ (by simp; omega), List.take_add_one, hz]
  rw [show k - ((zs.take k).map cutI).length = 0 by simp; omega, show N - k = (N - (k + 1)) + 1 by omega, List.replicate_succ, List.set_cons_zero]
  simp
theorem valsL_bd (zs : List Int) (N : Nat) : ∀ z ∈ valsL zs N N, -1099511627776 ≤ z ∧ z ≤ 1099511627776 := by
  intro z hz
  unfold valsL at hz
  simp only [Nat.sub_self, List.replicate_zero, List.append_nil, List.mem_cons, List.mem_map] at hz
  rcases hz with rfl | ⟨x, _, rfl⟩
  · omega
  · exact cutI_bd x
def ownL (ss : List Sy) (M : Int) (k : Nat) : List Sy := (ss.take k).map fun s => symH M 0 ⟨1, s.v, s.k, 0⟩
theorem symH_one (M : Int) (v k : Int) : symH M 0 ⟨1, v, k, 0⟩ = ⟨1, max 0 v % M, cutI k, 0⟩ := by unfold symH; simp
theorem symH_m (M m : Int) (v k : Int) : symH M m ⟨1, v, k, 0⟩ = symH M 0 ⟨1, v, k, 0⟩ := by unfold symH; simp
theorem ownL_ok {ss : List Sy} {zs : List Int} {N k : Nat} (hz : N ≤ zs.length) : OwnOk (valsL zs N N) (ownL ss (N + 1 : Nat) k) := by
  refine ⟨fun s hs => ?_, valsL_bd zs N⟩
  unfold ownL at hs
  obtain ⟨x, _, rfl⟩ := List.mem_map.1 hs
  rw [symH_one, valsL_len zs N N (Nat.le_refl _) hz]
  have h1 := cutI_bd x.k
  have h2 := Int.emod_nonneg (max 0 x.v) (show ((N + 1 : Nat) : Int) ≠ 0 by omega)
  have h3 := Int.emod_lt_of_pos (max 0 x.v) (show (0 : Int) < ((N + 1 : Nat) : Int) by omega)
  exact ⟨rfl, h2, h3, h1.1, h1.2⟩

/- What the cells are comes to what their variables are. -/
theorem cell_side {vs : List Int} {own : List Sy} (hok : OwnOk vs own) (h0 : vs.getD 0 0 = 0) (v : Int) (hv : 0 ≤ v ∧ v ≤ own.length) : cellN vs own v = vs.getD (sideY own v).v.toNat 0 + (sideY own v).k := by
  unfold cellN sideY
  by_cases hz : v = 0
  · subst hz
    rw [if_pos rfl, if_pos (.inl (by omega))]
    show (0 : Int) = vs.getD (0 : Int).toNat 0 + 0
    rw [show (0 : Int).toNat = 0 from rfl, h0]
    rfl
  · rw [if_neg hz, if_neg (by omega)]
    have hl : (v - 1).toNat < own.length := by omega
    have hk := (hok.each (own.getD (v - 1).toNat sy0) (by rw [List.getD_eq_getElem?_getD, List.getElem?_eq_getElem hl]; exact List.getElem_mem hl)).1
    rw [if_neg (by simpa using hk)]
theorem side_ok {vs : List Int} {own : List Sy} (hok : OwnOk vs own) (hn : 1 ≤ vs.length) (v : Int) : 0 ≤ (sideY own v).v ∧ (sideY own v).v < vs.length ∧ -1099511627776 ≤ (sideY own v).k ∧ (sideY own v).k ≤ 1099511627776 := by
  unfold sideY
  split
  · refine ⟨by decide, ?_, by decide, by decide⟩
    show (0 : Int) < vs.length
    omega
  · split
    · refine ⟨by decide, ?_, by decide, by decide⟩
      show (0 : Int) < vs.length
      omega
    · rename_i h1 _
      have hl : (v - 1).toNat < own.length := by omega
      have h := hok.each (own.getD (v - 1).toNat sy0) (by rw [List.getD_eq_getElem?_getD, List.getElem?_eq_getElem hl]; exact List.getElem_mem hl)
      exact h.2
theorem getD_bd {vs : List Int} (h : ∀ z ∈ vs, -1099511627776 ≤ z ∧ z ≤ 1099511627776) (k : Nat) : -1099511627776 ≤ vs.getD k 0 ∧ vs.getD k 0 ≤ 1099511627776 := by
  rw [List.getD_eq_getElem?_getD]
  cases hq : vs[k]? with
  | none => exact ⟨by decide, by decide⟩
  | some z => exact h z (List.mem_of_getElem? hq)

set_option maxRecDepth 100000 in
set_option maxHeartbeats 32000000 in
theorem heapOver_walk (FA : Option Addr) (fc : Nat) (fs : List F) (SA : Option Addr) (sc : Nat) (ss : List Sy) (ZA : Option Addr) (zc : Nat) (zs : List Int) (w : World) (hfs : FactsAt w w.heap.size FA fs) (hfl : fs.length ≤ fc) (hfm : fc ≤ maxLen) (_ : fc * 24 ≤ 140737488351232) (hss : SysAt w w.heap.size SA ss) (hsl : ss.length ≤ sc) (_hsm : sc ≤ maxLen) (_ : sc * 32 ≤ 140737488351232) (hzs : NumsAt w w.heap.size ZA zs) (_ : zs.length ≤ zc) (_hzm : zc ≤ maxLen) (_ : zc * 8 ≤ 140737488351232) :
    Calls Try.prog 5 #[.slice FA fs.length fc, .slice SA ss.length sc, .slice ZA zs.length zc] w fun e w' => e = .returned (.bool true) ∧ Below w.heap.size w w' := by
  obtain ⟨N, hN, hN1, hN2⟩ : ∃ N : Nat, (if (9 : Int) < (zs.length : Int) then (9 : Int) else (zs.length : Int)) = (N : Int) ∧ N ≤ 9 ∧ N ≤ zs.length := by
    by_cases h : (9 : Int) < (zs.length : Int)
    · exact ⟨9, by rw [if_pos h]; rfl, by omega, by omega⟩
    · exact ⟨zs.length, by rw [if_neg h], by omega, Nat.le_refl _⟩
  obtain ⟨Q, hQ, hQ1, hQ2⟩ : ∃ N : Nat, (if (9 : Int) < (ss.length : Int) then (9 : Int) else (ss.length : Int)) = (N : Int) ∧ N ≤ 9 ∧ N ≤ ss.length := by
    by_cases h : (9 : Int) < (ss.length : Int)
    · exact ⟨9, by rw [if_pos h]; rfl, by omega, by omega⟩
    · exact ⟨ss.length, by rw [if_neg h], by omega, Nat.le_refl _⟩
  have HFS := Lib.hid hfs
  have HSS := Lib.hid hss
  have HZS := Lib.hid hzs
  unfold maxLen at hfm _hsm _hzm
  clear hfs hss hzs
  obtain ⟨M, HM, hM⟩ : ∃ M : Nat, Hid (M = N + 1) ∧ (1 : Int) + (N : Int) = (M : Int) := ⟨N + 1, Lib.hid rfl, by omega⟩
  have hmk := run_make_ints Try.underlying54 Try.infoI64 M (by have := HM.out; omega)
  have hM1 : (M : Int) - 1 = (N : Int) := by omega
  go_enter Try.func5, Try.ntmps5
  go_wp2_with fail
  ((with_reducible refine (wakes_any _).mono ?_); rintro e w1 ⟨rfl, hb⟩)
  have hk0 := (Blk.new w [.slice none 0 0, .int .i64 (M : Int), .slice none 0 0] 27).stays hb
  have HB1 := Lib.hid (((Below.refl w.heap.size w).alloc (Nat.le_refl _) _).trans (hb.mono (by simp)))
  have x1 : w1.cell? ⟨w.heap.size, 1, none⟩ = some (.int .i64 (M : Int)) := hk0.cell 1
  have xl := hk0.lt
  have HK1 := Lib.hid hk0
  clear hb hk0
  go_upto_region 5 with fail
  obtain ⟨wb, hwb⟩ : ∃ W, (w1.alloc (.cells (ints (List.replicate M 0)).toArray 2)).alloc (.cells #[.slice (some ⟨w1.heap.size, 0, none⟩) M M] 54) = W := ⟨_, rfl⟩
  have hbv : Blk wb w1.heap.size (ints (List.replicate M 0)) 2 := hwb ▸ (Blk.new w1 _ _).alloc _
  have hbb : Blk wb (w1.heap.size + 1) [.slice (some ⟨w1.heap.size, 0, none⟩) M M] 54 := by
    have h := Blk.new (w1.alloc (.cells (ints (List.replicate M 0)).toArray 2)) [.slice (some ⟨w1.heap.size, 0, none⟩) M M] 54
    rw [show (w1.alloc (.cells (ints (List.replicate M 0)).toArray 2)).heap.size = w1.heap.size + 1 by simp] at h
    exact hwb ▸ h
  have hb1b : Below w1.heap.size w1 wb := hwb ▸ ((Below.refl _ _).alloc (Nat.le_refl _) _).alloc (by simp) _
  rw [hwb]
  have HBB := Lib.hid (HB1.out.trans (hb1b.mono HB1.out.size))
  have HKB := Lib.hid (HK1.out.stays hb1b)
  have HVB := Lib.hid hbv
  have HXB := Lib.hid hbb
  have hgv : w.heap.size < w1.heap.size := xl
  clear hbv hbb hb1b hwb x1 hmk
  generalize hgve : w1.heap.size = gv at *
  generalize hgb : gv + 1 = gb at *
  have xb1 : wb.cell? ⟨w.heap.size, 1, none⟩ = some (.int .i64 (M : Int)) := HKB.out.cell 1
  have xbl := HKB.out.lt
  go_wp2_with fail
  go_loopw [36] (fun i wr => ∃ k : Nat, k ≤ N ∧ i = .int .i64 k ∧ Ch (fun x => x = gv) wb wr ∧ Blk wr gv (ints (valsL zs N k)) 2) (fun i _ => N - (intOf i).toNat)
  case atStart =>
    refine ⟨0, by omega, rfl, Ch.refl _ _, ?_⟩
    have h := HVB.out
    rw [HM.out] at h
    unfold valsL
    rw [List.take_zero, List.map_nil, List.nil_append, Nat.sub_zero, ← List.replicate_succ]
    exact h
  case round =>
    obtain ⟨k, hk, rfl, hch, hbv⟩ := hrel
    have xr1 : wr.cell? ⟨w.heap.size, 1, none⟩ = some (.int .i64 (M : Int)) := (HKB.out.ch hch (Nat.ne_of_lt hgv)).cell 1
    have gb0 : wr.cell? ⟨gb, 0, none⟩ = some (.slice (some ⟨gv, 0, none⟩) M M) := (HXB.out.ch hch (by omega)).cell 0
    have HCH := Lib.hid hch
    have HBV := Lib.hid hbv
    have HBW := Lib.hid (HBB.out.trans (hch.below (fun k h => by rw [h]; exact Nat.le_of_lt hgv) HBB.out.size))
    have hvl := valsL_len zs N k hk hN2
    by_cases hlt : k < N
    · obtain ⟨z, hz⟩ : ∃ z, zs[k]? = some z := ⟨_, List.getElem?_eq_getElem (by omega)⟩
      obtain ⟨nb, no, rfl, hnb, hnc⟩ := HZS.out (by omega)
      have hz2 : zs.getD k 0 = z := by rw [List.getD_eq_getElem?_getD, hz]; rfl
      have zc0 : wr.cell? ⟨nb, no + k, none⟩ = some (.int .i64 z) := by
        rw [HBW.out.cell (p := ⟨nb, no + k, none⟩) hnb, hnc k (by omega), hz2]
      obtain ⟨y, hy⟩ : ∃ y, wr.cell? ⟨gv, k + 1, none⟩ = some y := ⟨_, (hbv.cell (k + 1)).trans (intsGet _ (k + 1) (by omega))⟩
      have hyz := hbv.frozen (k + 1)
      have hyl := hbv.lt
      have hlt2 : (k : Int) < (N : Int) := by omega
      have hkz : (k : Int) < (zs.length : Int) := by omega
      have hkm : (k : Int) + 1 < (M : Int) := by omega
      have hk0 : (0 : Int) ≤ (k : Int) + 1 := by omega
      have hkw : IntKind.i64.wrap ((k : Int) + 1) = (k : Int) + 1 := IntWalk.i64_in _ (by omega)
      have hkn : ((k : Int) + 1).toNat = k + 1 := by omega
      have HZK := Lib.hid hz
      clear hch hbv hnc hz hz2
      go_wp2_with fail
      refine AnyE.begin2 (S := fun W => W.cell? ⟨gb, 0, none⟩ = some (.slice (some ⟨gv, 0, none⟩) M M) ∧ W.cell? ⟨nb, no + k, none⟩ = some (.int .i64 z)) (by kernel_rfl) ⟨by go_simp, by go_simp⟩ (fun hS => ?_)
      refine AnyE.take (i := 0) (oi := ⟨some 39, _, _, _, _, _⟩) (v := .slice (some ⟨gv, 0, none⟩) M M) rfl (by kernel_rfl) (by kernel_rfl) (by kernel_rfl) (by kernel_rfl) (fun _ _ _ h => h) (Or.inl ⟨by rfl, fun W hW => by obtain ⟨a0, a1⟩ := hW; go_simp⟩) hS ?_
      try simp only [Act.put, List.setIfInBounds_toArray, List.set_cons_zero, List.set_cons_succ]
      refine AnyE.take (i := 1) (oi := ⟨some 40, _, _, _, _, _⟩) (v := .int .i64 (k : Int)) rfl (by kernel_rfl) (by kernel_rfl) (by kernel_rfl) (by kernel_rfl) (fun _ _ _ h => h) (Or.inl ⟨by rfl, fun W _ => by go_simp⟩) hS ?_
      try simp only [Act.put, List.setIfInBounds_toArray, List.set_cons_zero, List.set_cons_succ]
      refine AnyE.take (i := 2) (oi := ⟨some 41, _, _, _, _, _⟩) (v := .int .i64 ((k : Int) + 1)) rfl (by kernel_rfl) (by kernel_rfl) (by kernel_rfl) (by kernel_rfl) (fun _ _ _ h => h) (Or.inl ⟨by rfl, fun W _ => by go_simp⟩) hS ?_
      try simp only [Act.put, List.setIfInBounds_toArray, List.set_cons_zero, List.set_cons_succ]
      refine AnyE.take (i := 3) (oi := ⟨some 42, _, _, _, _, _⟩) (v := .slice (some ⟨nb, no, none⟩) zs.length zc) rfl (by kernel_rfl) (by kernel_rfl) (by kernel_rfl) (by kernel_rfl) (fun _ _ _ h => h) (Or.inl ⟨by rfl, fun W _ => by go_simp⟩) hS ?_
      try simp only [Act.put, List.setIfInBounds_toArray, List.set_cons_zero, List.set_cons_succ]
      refine AnyE.take (i := 4) (oi := ⟨some 43, _, _, _, _, _⟩) (v := .int .i64 (k : Int)) rfl (by kernel_rfl) (by kernel_rfl) (by kernel_rfl) (by kernel_rfl) (fun _ _ _ h => h) (Or.inl ⟨by rfl, fun W _ => by go_simp⟩) hS ?_
      try simp only [Act.put, List.setIfInBounds_toArray, List.set_cons_zero, List.set_cons_succ]
      refine AnyE.take (i := 5) (oi := ⟨some 44, _, _, _, _, _⟩) (v := .pointer (some ⟨nb, no + k, none⟩)) rfl (by kernel_rfl) (by kernel_rfl) (by kernel_rfl) (by kernel_rfl) (fun _ _ _ h => h) (Or.inl ⟨by rfl, fun W _ => by go_simp⟩) hS ?_
      try simp only [Act.put, List.setIfInBounds_toArray, List.set_cons_zero, List.set_cons_succ]
      refine AnyE.take (i := 6) (oi := ⟨some 45, _, _, _, _, _⟩) (v := .int .i64 z) rfl (by kernel_rfl) (by kernel_rfl) (by kernel_rfl) (by kernel_rfl) (fun _ _ _ h => h) (Or.inl ⟨by rfl, fun W hW => by obtain ⟨a0, a1⟩ := hW; go_simp⟩) hS ?_
      try simp only [Act.put, List.setIfInBounds_toArray, List.set_cons_zero, List.set_cons_succ]
      refine AnyE.one (i := 7) (o := ⟨some 46, _, _, _, _, _⟩) (by kernel_rfl) rfl (by rfl) (fun K hK => ?_)
      go_simp
      refine (cut_any z _).mono ?_
      rintro e w9 ⟨rfl, rfl⟩
      refine hK.out _ _ (fun _ => hS) ?_
      clear hK K
      try simp only [Act.put, List.setIfInBounds_toArray, List.set_cons_zero, List.set_cons_succ]
      refine AnyE.take (i := 8) (oi := ⟨some 47, _, _, _, _, _⟩) (v := .pointer (some ⟨gv, k + 1, none⟩)) rfl (by kernel_rfl) (by kernel_rfl) (by kernel_rfl) (by kernel_rfl) (fun _ _ _ h => h) (Or.inl ⟨by rfl, fun W _ => by go_simp⟩) hS ?_
      try simp only [Act.put, List.setIfInBounds_toArray, List.set_cons_zero, List.set_cons_succ]
      refine AnyE.one (i := 9) (o := ⟨none, _, _, _, _, _⟩) (by kernel_rfl) rfl (by rfl) (fun K hK => ?_)
      go_simp
      refine hK.out _ _ (fun h => absurd rfl h) ?_
      clear hK K
      try simp only [Act.put, List.setIfInBounds_toArray, List.set_cons_zero, List.set_cons_succ]
      refine AnyE.done (by kernel_rfl) ?_ _
      clear hS
      go_wp2_with fail
      go_roundw
      case rel =>
        refine ⟨k + 1, by omega, by go_num, ?_, ?_⟩
        · exact HCH.out.trans (((Ch.of_below (Below.refl _ _).drew).trans ((Ch.refl (fun x => x = gv) _).set ⟨gv, k + 1, none⟩ (.inl rfl) _) (fun _ _ h => h))) (fun _ _ h => h)
        · have h3 := (HBV.out.drew).put (k + 1) (.int .i64 (cutI z))
          rw [intsSet, valsL_step zs N k hlt HZK.out] at h3
          exact h3
      case measure => simp [intOf]; omega
    · have hke : k = N := by omega
      subst hke
      have hgl : gv < wr.heap.size := hbv.lt
      have HOK : Hid (∀ j, OwnOk (valsL zs k k) (ownL ss (k + 1 : Nat) j)) := Lib.hid fun j => ownL_ok hN2
      have HVL : Hid ((valsL zs k k).length = M) := Lib.hid (by rw [hvl]; exact HM.out.symm)
      have hMk : k + 1 = M := HM.out.symm
      rw [hMk] at HOK
      have HV0 : Hid ((valsL zs k k).getD 0 0 = 0) := Lib.hid rfl
      obtain ⟨vals, hvals⟩ : ∃ vals, valsL zs k k = vals := ⟨_, rfl⟩
      rw [hvals] at HOK HVL HV0 HBV
      have HXR := Lib.hid (HXB.out.ch hch (by omega))
      have HKR := Lib.hid (HKB.out.ch hch (Nat.ne_of_lt hgv))
      have hgbl := HXR.out.lt
      clear hch hbv hvl hvals HCH HXB HKB HVB HBB HB1 HK1 xb1 xbl gb0
      rename World => w2
      go_wp2_with fail
      have hbx : Below w2.heap.size w2 (w2.alloc (.cells #[.slice none 0 0] 38)) := (Below.refl _ _).alloc (Nat.le_refl _) _
      obtain ⟨i0, z0, I⟩ := Try.symRow
      go_loopw [55] (fun i wr => ∃ (k : Nat) (OA : Option Addr) (oc : Nat), k ≤ Q ∧ i = .int .i64 k ∧ Below w2.heap.size w2 wr ∧ wr.cell? ⟨w2.heap.size, 0, none⟩ = some (.slice OA k oc) ∧ wr.frozen? ⟨w2.heap.size, 0, none⟩ = false ∧ wr.ownsRow 0 36 4 (.slice OA k oc) k ((ownL ss M k).map syCells).flatten ∧ ∀ g, (Value.slice OA k oc).ownBlock = some g → w2.heap.size < g) (fun i _ => Q - (intOf i).toNat)
      case atStart => exact ⟨0, none, 0, by omega, rfl, hbx, by simp, by simp, World.ownsRow_nil _ _ _ _, fun g hg => by simp [Value.ownBlock] at hg⟩
      case round =>
        obtain ⟨k, OA, oc, hk, rfl, hb, hoc, hoz, ho, hg⟩ := hrel
        have HO := Lib.hid ho
        have HG := Lib.hid hg
        have HB := Lib.hid hb
        have HBR := Lib.hid (HBW.out.trans (hb.mono HBW.out.size))
        by_cases hlt : k < Q
        · obtain ⟨s, hs⟩ : ∃ s, ss[k]? = some s := ⟨_, List.getElem?_eq_getElem (by omega)⟩
          obtain ⟨sb, so, rfl, hsb, hsc⟩ := HSS.out (by omega)
          obtain ⟨e0, e1, e2, e3⟩ := hsc k s hs
          have d0 := (HBR.out.cell (p := ⟨sb, so + k * 4, none⟩) hsb).trans e0
          have d1 := (HBR.out.cell (p := ⟨sb, so + k * 4 + 1, none⟩) hsb).trans e1
          have d2 := (HBR.out.cell (p := ⟨sb, so + k * 4 + 2, none⟩) hsb).trans e2
          have d3 := (HBR.out.cell (p := ⟨sb, so + k * 4 + 3, none⟩) hsb).trans e3
          have hlt2 : (k : Int) < (Q : Int) := by omega
          have hkr := HKR.out.below hb HKR.out.lt
          have HSY := Lib.hid fun (W : World) (hW : Below wr.heap.size wr W) => sym_any w.heap.size (A := none) (m := 0) (cap := 0) (n := (M : Int)) ⟨1, s.v, s.k, 0⟩ W ((hkr.stays hW).cell 0) ((hkr.stays hW).cell 1) (by have := HM.out; omega) (by omega)
          obtain ⟨y, hy⟩ : ∃ y, symH (M : Int) ((0 : Nat) : Int) ⟨1, s.v, s.k, 0⟩ = y := ⟨_, rfl⟩
          have HY : Hid (symH (M : Int) 0 ⟨1, s.v, s.k, 0⟩ = y) := Lib.hid hy
          rw [hy] at HSY
          unfold SyV at HSY
          have hne : some wr.heap.size ≠ (Value.slice OA k oc).ownBlock := fun e => Nat.lt_irrefl _ (row_lt ho e.symm)
          have hne0 : some w2.heap.size ≠ (Value.slice OA k oc).ownBlock := fun e => Nat.lt_irrefl _ (hg _ e.symm)
          have hk1 : k + 1 ≤ maxLen := by unfold maxLen; omega
          have hk2 : (k + 1) * 32 ≤ 140737488355328 := by omega
          have HSK := Lib.hid hs
          have hgowl := cell_lt hoc
          clear hsc e0 e1 e2 e3 hs ho hg hb hkr hy
          go_wp2_with fail
          refine AnyE.begin2 (S := fun W => W.cell? ⟨w2.heap.size, 0, none⟩ = some (.slice OA k oc) ∧ W.cell? ⟨wr.heap.size, 1, none⟩ = some (.int .i64 s.v) ∧ W.cell? ⟨wr.heap.size, 2, none⟩ = some (.int .i64 s.k)) (by kernel_rfl) ⟨by go_simp, by go_simp, by go_simp⟩ (fun hS => ?_)
          have hbd : Below wr.heap.size wr (wr.alloc (.cells #[.int .i64 s.kind, .int .i64 s.v, .int .i64 s.k, .int .i64 s.b] 36)).drew := ((Below.refl _ _).alloc (Nat.le_refl _) _).drew
          generalize (wr.alloc (.cells #[.int .i64 s.kind, .int .i64 s.v, .int .i64 s.k, .int .i64 s.b] 36)).drew = wd at hbd hS ⊢
          refine AnyE.take (i := 0) (oi := ⟨some 59, _, _, _, _, _⟩) (v := .slice OA k oc) rfl (by kernel_rfl) (by kernel_rfl) (by kernel_rfl) (by kernel_rfl) (fun _ _ _ h => h) (Or.inl ⟨by rfl, fun W hW => by obtain ⟨a0, a1, a2⟩ := hW; go_simp⟩) hS ?_
          try simp only [Act.put, List.setIfInBounds_toArray, List.set_cons_zero, List.set_cons_succ]
          refine AnyE.take (i := 1) (oi := ⟨some 60, _, _, _, _, _⟩) (v := .pointer (some ⟨w.heap.size, 0, none⟩)) rfl (by kernel_rfl) (by kernel_rfl) (by kernel_rfl) (by kernel_rfl) (fun _ _ _ h => h) (Or.inl ⟨by rfl, fun W _ => by go_simp⟩) hS ?_
          try simp only [Act.put, List.setIfInBounds_toArray, List.set_cons_zero, List.set_cons_succ]
          refine AnyE.take (i := 2) (oi := ⟨some 61, _, _, _, _, _⟩) (v := .pointer (some ⟨wr.heap.size, 1, none⟩)) rfl (by kernel_rfl) (by kernel_rfl) (by kernel_rfl) (by kernel_rfl) (fun _ _ _ h => h) (Or.inl ⟨by rfl, fun W _ => by go_simp⟩) hS ?_
          try simp only [Act.put, List.setIfInBounds_toArray, List.set_cons_zero, List.set_cons_succ]
          refine AnyE.take (i := 3) (oi := ⟨some 62, _, _, _, _, _⟩) (v := .int .i64 s.v) rfl (by kernel_rfl) (by kernel_rfl) (by kernel_rfl) (by kernel_rfl) (fun _ _ _ h => h) (Or.inl ⟨by rfl, fun W hW => by obtain ⟨a0, a1, a2⟩ := hW; go_simp⟩) hS ?_
          try simp only [Act.put, List.setIfInBounds_toArray, List.set_cons_zero, List.set_cons_succ]
          refine AnyE.take (i := 4) (oi := ⟨some 63, _, _, _, _, _⟩) (v := .pointer (some ⟨wr.heap.size, 2, none⟩)) rfl (by kernel_rfl) (by kernel_rfl) (by kernel_rfl) (by kernel_rfl) (fun _ _ _ h => h) (Or.inl ⟨by rfl, fun W _ => by go_simp⟩) hS ?_
          try simp only [Act.put, List.setIfInBounds_toArray, List.set_cons_zero, List.set_cons_succ]
          refine AnyE.take (i := 5) (oi := ⟨some 64, _, _, _, _, _⟩) (v := .int .i64 s.k) rfl (by kernel_rfl) (by kernel_rfl) (by kernel_rfl) (by kernel_rfl) (fun _ _ _ h => h) (Or.inl ⟨by rfl, fun W hW => by obtain ⟨a0, a1, a2⟩ := hW; go_simp⟩) hS ?_
          try simp only [Act.put, List.setIfInBounds_toArray, List.set_cons_zero, List.set_cons_succ]
          refine AnyE.take (i := 6) (oi := ⟨some 65, _, _, _, _, _⟩) (v := .agg #[.int .i64 1, .int .i64 s.v, .int .i64 s.k, .int .i64 0]) rfl (by kernel_rfl) (by kernel_rfl) (by kernel_rfl) (by kernel_rfl) (fun _ _ _ h => h) (Or.inl ⟨by rfl, fun W _ => by go_simp⟩) hS ?_
          try simp only [Act.put, List.setIfInBounds_toArray, List.set_cons_zero, List.set_cons_succ]
          refine AnyE.one (i := 7) (o := ⟨some 66, _, _, _, _, _⟩) (by kernel_rfl) rfl (by rfl) (fun K hK => ?_)
          go_simp
          refine (HSY.out _ hbd).mono ?_
          rintro e w9 ⟨rfl, hb⟩
          have hS := (show _ ∧ _ ∧ _ from ⟨keepC hS.1 hb, keepC hS.2.1 hb, keepC hS.2.2 hb⟩)
          have hb9 := hbd.trans (hb.mono hbd.size)
          clear hb
          refine hK.out _ _ (fun _ => hS) ?_
          clear hK K
          try simp only [Act.put, List.setIfInBounds_toArray, List.set_cons_zero, List.set_cons_succ]
          refine AnyE.one (i := 8) (o := ⟨some 67, _, _, _, _, _⟩) (by kernel_rfl) rfl (by rfl) (fun K hK => ?_)
          go_simp
          have hb : Below w9.heap.size w9 (w9.alloc (.cells #[.int .i64 y.kind, .int .i64 y.v, .int .i64 y.k, .int .i64 y.b] 36)) := (Below.refl _ _).alloc (Nat.le_refl _) _
          have hS := (show _ ∧ _ ∧ _ from ⟨keepC hS.1 hb, keepC hS.2.1 hb, keepC hS.2.2 hb⟩)
          refine hK.out _ _ (fun _ => hS) ?_
          clear hK K
          try simp only [Act.put, List.setIfInBounds_toArray, List.set_cons_zero, List.set_cons_succ]
          refine AnyE.one (i := 9) (o := ⟨some 68, _, _, _, _, _⟩) (by kernel_rfl) rfl (by rfl) (fun K hK => ?_)
          refine (wp_append_hist (.tmp 59) (.tmp 67) rfl I rfl (row_same HO.out fun g hg => (hb9.trans (hb.mono hb9.size)).block g (row_lt HO.out hg)) rfl (news := [.int .i64 y.kind, .int .i64 y.v, .int .i64 y.k, .int .i64 y.b]) rfl (lit2_at w9 36 [.int .i64 y.kind, .int .i64 y.v, .int .i64 y.k, .int .i64 y.b]) (allOne _ rfl) hk1 hk2 ?_)
          intro A2 cap2 w4 ha
          have hS := (show _ ∧ _ ∧ _ from ⟨ha.grown.cell (a := ⟨w2.heap.size, 0, none⟩) hS.1 hne0, ha.grown.cell (a := ⟨wr.heap.size, 1, none⟩) hS.2.1 hne, ha.grown.cell (a := ⟨wr.heap.size, 2, none⟩) hS.2.2 hne⟩)
          refine hK.out _ _ (fun _ => hS) ?_
          clear hK K
          try simp only [Act.put, List.setIfInBounds_toArray, List.set_cons_zero, List.set_cons_succ]
          refine AnyE.one (i := 10) (o := ⟨none, _, _, _, _, _⟩) (by kernel_rfl) rfl (by rfl) (fun K hK => ?_)
          have hz4 : w4.frozen? ⟨w2.heap.size, 0, none⟩ = false := (World.frozen?_of_block (a := ⟨w2.heap.size, 0, none⟩) (ha.grown.block w2.heap.size (Nat.lt_of_lt_of_le (cell_lt hoc) (Nat.le_trans hb9.size hb.size)) hne0)).trans ((hb9.trans (hb.mono hb9.size)).frozen (p := ⟨w2.heap.size, 0, none⟩) (cell_lt hoc) |>.trans hoz)
          have hl4 := cell_lt hS.1
          go_simp
          refine hK.out _ _ (fun h => absurd rfl h) ?_
          clear hK K
          try simp only [Act.put, List.setIfInBounds_toArray, List.set_cons_zero, List.set_cons_succ]
          refine AnyE.done (by kernel_rfl) ?_ _
          have hoc4 := hS.1
          have hb14 := hb9.trans (hb.mono hb9.size)
          have hb24 : Below w2.heap.size w2 w4 := (HB.out.trans (hb14.mono HB.out.size)).grown ha.grown (Nat.le_trans HB.out.size hb14.size) (fun g hg => Nat.le_of_lt (HG.out g hg))
          have hoz4 : w4.frozen? ⟨w2.heap.size, 0, none⟩ = false := (World.frozen?_of_block (a := ⟨w2.heap.size, 0, none⟩) (ha.grown.block w2.heap.size (Nat.lt_of_lt_of_le hgowl hb14.size) hne0)).trans ((hb14.frozen (p := ⟨w2.heap.size, 0, none⟩) hgowl).trans hoz)
          have hg4 : ∀ g, (Value.slice A2 (k + 1) cap2).ownBlock = some g → w2.heap.size < g := fun g hg => by
            rcases ha.block with h | h
            · exact HG.out g (h ▸ hg)
            · rw [h] at hg
              cases hg
              exact Nat.lt_of_lt_of_le hgowl hb14.size
          have HB4 := Lib.hid hb24
          have HG4 := Lib.hid hg4
          have HO4 := Lib.hid ha.own
          clear hS ha hb hbd hb9 hb14 hb24 hg4
          go_wp2_with fail
          go_roundw
          case rel =>
            refine ⟨k + 1, A2, cap2, by omega, by go_num, HB4.out.setCell (p := ⟨w2.heap.size, 0, none⟩) (Nat.le_refl _) _, by go_simp, by go_simp, ?_, HG4.out⟩
            have e : ((ownL ss M (k + 1)).map syCells).flatten = ((ownL ss M k).map syCells).flatten ++ [.int .i64 y.kind, .int .i64 y.v, .int .i64 y.k, .int .i64 y.b] := by
              unfold ownL
              rw [List.take_add_one, HSK.out]
              simp only [Option.toList, List.map_append, List.map_cons, List.map_nil, List.flatten_append, List.flatten_cons, List.flatten_nil, List.append_nil]
              rw [HY.out]
              rfl
            rw [e]
            exact row_same HO4.out fun g hg => Below.heap_setCell _ _ _ _ (by show g ≠ w2.heap.size; exact Nat.ne_of_gt (HG4.out g hg))
          case measure => simp [intOf]; omega
        · have hke : k = Q := by omega
          subst hke
          have hol : (ownL ss M k).length = k := by unfold ownL; rw [List.length_map, List.length_take]; omega
          obtain ⟨ow, how⟩ : ∃ ow, ownL ss M k = ow := ⟨_, rfl⟩
          have HOK2 := Lib.hid (HOK.out k)
          rw [how] at ho hol HOK2
          have HOL := Lib.hid hol
          have hsy : SysAt wr wr.heap.size OA ow := by
            rw [← hol] at ho
            exact SysAt.of_own ho
          have HSO := Lib.hid hsy
          have hfa := facts_any (cap := fc) (n := (k : Int) + 1) wr ((HFS.out.below HBR.out (Nat.le_refl _)).more HBR.out.size) hfl (by unfold maxLen; omega) (by omega)
          have hgowl := cell_lt hoc
          clear ho hg hb hsy how HOK
          go_wp2_with fail
          ((with_reducible refine hfa.mono ?_); rintro e w3 ⟨LA, lc, rfl, hlo, hlg, hb3⟩)
          have hLl := factsL_len fs ((k : Int) + 1)
          have hLok : ∀ f ∈ factsL fs ((k : Int) + 1), 0 ≤ f.x ∧ f.x < (k : Int) + 1 ∧ 0 ≤ f.y ∧ f.y < (k : Int) + 1 ∧ -1099511627776 ≤ f.c ∧ f.c ≤ 1099511627776 := fun f hf => by
            unfold factsL at hf
            obtain ⟨x, _, rfl⟩ := List.mem_map.1 hf
            exact fcut_ok (by omega) x
          generalize factsL fs ((k : Int) + 1) = L at *
          have hov := over_any (capA := oc) (capB := lc) w3 (A := OA) (B := LA) (l := ow) (fs := L) ((HSO.out.below hb3 (Nat.le_refl _)).more hb3.size) (FactsAt.of_own hlo) (by rw [HOL.out]; omega) (by omega) (fun s hs => by obtain ⟨_, _, _, h1, h2⟩ := HOK2.out.each s hs; exact ⟨by omega, by omega⟩) (fun f hf => by obtain ⟨h1, h2, h3, h4, h5, h6⟩ := hLok f hf; exact ⟨by omega, by omega, by omega, by omega, ⟨by omega, by omega⟩⟩)
          rw [HOL.out] at hov
          have hoc3 := keepC hoc hb3
          have HB3 := Lib.hid hb3
          have HLO := Lib.hid hlo
          have HLK := Lib.hid hLok
          clear hfa hlg hlo hb3 hLok
          go_wp2_with fail
          ((with_reducible refine hov.mono ?_); rintro e wO ⟨go, rfl, hgo, hgk, hb⟩)
          have HBO := Lib.hid (HB3.out.trans (hb.mono HB3.out.size))
          have HLO2 := Lib.hid (FactsAt.of_own (row_same HLO.out fun g hg => hb.block g (row_lt HLO.out hg)) |>.more (Nat.le_refl _))
          have HGK := Lib.hid hgk
          have hocO := keepC hoc3 hb
          clear hov hb hgk HLO hoc3
          go_wp2_with fail
          go_loopw [86] (fun i wr => ∃ j : Nat, j ≤ L.length ∧ i = .int .i64 j ∧ Below wO.heap.size wO wr) (fun i _ => L.length - (intOf i).toNat)
          case atStart => exact ⟨0, by omega, rfl, Below.refl _ _⟩
          case round =>
            rename World => wr3
            obtain ⟨j, hj, rfl, hb⟩ := hrel
            have HBJ := Lib.hid hb
            by_cases hlt3 : j < L.length
            · obtain ⟨f, hf⟩ : ∃ f, L[j]? = some f := ⟨_, List.getElem?_eq_getElem hlt3⟩
              obtain ⟨lb, lo, rfl, hlb, hlc⟩ := HLO2.out (by omega)
              obtain ⟨e0, e1, e2⟩ := hlc j f hf
              have d0 := (hb.cell (p := ⟨lb, lo + j * 3, none⟩) hlb).trans e0
              have d1 := (hb.cell (p := ⟨lb, lo + j * 3 + 1, none⟩) hlb).trans e1
              have d2 := (hb.cell (p := ⟨lb, lo + j * 3 + 2, none⟩) hlb).trans e2
              obtain ⟨l1, l2, l3, l4, l5, l6⟩ := HLK.out f (List.mem_of_getElem? hf)
              have hol2 := HOL.out
              have hfx : 0 ≤ f.x ∧ f.x ≤ ow.length := by omega
              have hfy : 0 ≤ f.y ∧ f.y ≤ ow.length := by omega
              obtain ⟨sx0, sx1, sx2, sx3⟩ := side_ok HOK2.out (by rw [HVL.out]; omega) f.x
              obtain ⟨sy0', sy1, sy2, sy3⟩ := side_ok HOK2.out (by rw [HVL.out]; omega) f.y
              rw [HVL.out] at sx1 sy1
              have hcx := cell_side HOK2.out HV0.out f.x hfx
              have hcy := cell_side HOK2.out HV0.out f.y hfy
              have hgc : (overF ow f).c = f.c - (sideY ow f.x).k + (sideY ow f.y).k := rfl
              have hom : (L.map (overF ow))[j]? = some (overF ow f) := by rw [List.getElem?_map, hf]; rfl
              have key : ∀ q v, (fCells (overF ow f))[q]? = some v → q < 3 → wr3.cell? ⟨go, j * 3 + q, none⟩ = some v := fun q v hv hq => by
                rw [hb.cell (p := ⟨go, j * 3 + q, none⟩) HGK.out.lt, HGK.out.cell, factCells_get _ j _ q hom hq]
                exact hv
              have g0 : wr3.cell? ⟨go, j * 3, none⟩ = some (.int .i64 (sideY ow f.x).v) := key 0 _ rfl (by omega)
              have g1 : wr3.cell? ⟨go, j * 3 + 1, none⟩ = some (.int .i64 (sideY ow f.y).v) := key 1 _ rfl (by omega)
              have g2 : wr3.cell? ⟨go, j * 3 + 2, none⟩ = some (.int .i64 (overF ow f).c) := key 2 _ rfl (by omega)
              obtain ⟨gx, hgx⟩ : ∃ gx : Nat, (sideY ow f.x).v = (gx : Int) := ⟨(sideY ow f.x).v.toNat, by omega⟩
              obtain ⟨gy, hgy⟩ : ∃ gy : Nat, (sideY ow f.y).v = (gy : Int) := ⟨(sideY ow f.y).v.toNat, by omega⟩
              rw [hgx, Int.toNat_natCast] at hcx
              rw [hgy, Int.toNat_natCast] at hcy
              rw [hgx] at g0 sx1
              rw [hgy] at g1 sy1
              have hb2w : Below w2.heap.size w2 wr3 := HB.out.trans ((HBO.out.trans (hb.mono HBO.out.size)).mono HB.out.size)
              have hbv3 := HBV.out.stays hb2w
              have v0 : wr3.cell? ⟨gv, gx, none⟩ = some (.int .i64 (vals.getD gx 0)) := (hbv3.cell gx).trans (intsGet vals gx (by rw [HVL.out]; omega))
              have v1 : wr3.cell? ⟨gv, gy, none⟩ = some (.int .i64 (vals.getD gy 0)) := (hbv3.cell gy).trans (intsGet vals gy (by rw [HVL.out]; omega))
              have hgb3 := HXR.out.stays hb2w
              have b0 : wr3.cell? ⟨gb, 0, none⟩ = some (.slice (some ⟨gv, 0, none⟩) M M) := hgb3.cell 0
              have ho3 := keepC hocO hb
              have hSO3 := (HSO.out.below (HBO.out.trans (hb.mono HBO.out.size)) (Nat.le_refl _)).more (HBO.out.trans (hb.mono HBO.out.size)).size
              have HCE := Lib.hid fun (v : Int) (hv : 0 ≤ v ∧ v ≤ ow.length) (W : World) (hW : Below wr3.heap.size wr3 W) => cell_any (cap := oc) (gv := gv) (gb := gb) (go := w2.heap.size) HOK2.out v hv (by omega) (by rw [HVL.out]; omega) W (by rw [HVL.out]; exact keepC b0 hW) (by rw [hol2]; exact keepC ho3 hW) ((hSO3.below hW (Nat.le_refl _)).more hW.size) (hbv3.stays hW)
              have bx := getD_bd HOK2.out.num gx
              have by' := getD_bd HOK2.out.num gy
              obtain ⟨B, hB1⟩ : ∃ B, decide (cellN vals ow f.x - cellN vals ow f.y ≤ f.c) = B := ⟨_, rfl⟩
              have hB2 : decide (vals.getD gx 0 - vals.getD gy 0 ≤ (overF ow f).c) = B := by
                rw [← hB1, hgc, hcx, hcy]
                rw [decide_eq_decide]
                omega
              have hBB : (B != B) = false := by cases B <;> rfl
              have hw1 : IntKind.i64.wrap (cellN vals ow f.x - cellN vals ow f.y) = cellN vals ow f.x - cellN vals ow f.y := IntWalk.i64_in _ (by omega)
              have hw2 : IntKind.i64.wrap (vals.getD gx 0 - vals.getD gy 0) = vals.getD gx 0 - vals.getD gy 0 := IntWalk.i64_in _ (by omega)
              have hjl : (j : Int) < (L.length : Int) := by omega
              have hgxm : (gx : Int) < (M : Int) := by omega
              have hgym : (gy : Int) < (M : Int) := by omega
              generalize vals.getD gx 0 = vx at *
              generalize vals.getD gy 0 = vy at *
              have hz1 := cell_lt g0
              have hz2 := cell_lt v0
              have hz3 := cell_lt b0
              clear hlc e0 e1 e2 key hom hf hcx hcy hbv3 hgb3 ho3 hSO3 hb hb2w hgc sx2 sx3 sy2 sy3 bx by'
              go_wp2_with fail
              refine wp_region_held_drew (S := fun W => W.cell? ⟨wr3.heap.size, 0, none⟩ = some (.int .i64 f.x) ∧ W.cell? ⟨wr3.heap.size, 1, none⟩ = some (.int .i64 f.y) ∧ W.cell? ⟨wr3.heap.size, 2, none⟩ = some (.int .i64 f.c) ∧ W.cell? ⟨wr3.heap.size + 1, 0, none⟩ = some (.int .i64 (gx : Int)) ∧ W.cell? ⟨wr3.heap.size + 1, 1, none⟩ = some (.int .i64 (gy : Int)) ∧ W.cell? ⟨wr3.heap.size + 1, 2, none⟩ = some (.int .i64 (overF ow f).c) ∧ W.cell? ⟨gb, 0, none⟩ = some (.slice (some ⟨gv, 0, none⟩) M M) ∧ W.cell? ⟨gv, gx, none⟩ = some (.int .i64 vx) ∧ W.cell? ⟨gv, gy, none⟩ = some (.int .i64 vy) ∧ Below wr3.heap.size wr3 W) (by kernel_rfl) ⟨by go_simp, by go_simp, by go_simp, by go_simp, by go_simp, by go_simp, by go_simp, by go_simp, by go_simp, ((((Below.refl _ _).alloc (Nat.le_refl _) _).alloc (by simp) _).drew)⟩ (fun hS => ?_)
              refine wpAnyH_take (i := 0) (oi := ⟨some 95, _, _, _, _, _⟩) (v := .func (.func 19) #[] #[.pointer (some ⟨gb, 0, none⟩), .pointer (some ⟨w2.heap.size, 0, none⟩)]) rfl (by kernel_rfl) (by kernel_rfl) (by kernel_rfl) (fun _ _ _ h => h) (Or.inl ⟨by rfl, fun W _ => by go_simp⟩) hS ?_
              try simp only [Act.put, List.setIfInBounds_toArray, List.set_cons_zero, List.set_cons_succ]
              refine wpAnyH_take (i := 1) (oi := ⟨some 96, _, _, _, _, _⟩) (v := .pointer (some ⟨wr3.heap.size, 0, none⟩)) rfl (by kernel_rfl) (by kernel_rfl) (by kernel_rfl) (fun _ _ _ h => h) (Or.inl ⟨by rfl, fun W _ => by go_simp⟩) hS ?_
              try simp only [Act.put, List.setIfInBounds_toArray, List.set_cons_zero, List.set_cons_succ]
              refine wpAnyH_take (i := 2) (oi := ⟨some 97, _, _, _, _, _⟩) (v := .int .i64 f.x) rfl (by kernel_rfl) (by kernel_rfl) (by kernel_rfl) (fun _ _ _ h => h) (Or.inl ⟨by rfl, fun W hW => by obtain ⟨a0, a1, a2, a3, a4, a5, a6, a7, a8, _⟩ := hW; go_simp⟩) hS ?_
              try simp only [Act.put, List.setIfInBounds_toArray, List.set_cons_zero, List.set_cons_succ]
              refine wpAnyH_take (i := 4) (oi := ⟨some 99, _, _, _, _, _⟩) (v := .func (.func 19) #[] #[.pointer (some ⟨gb, 0, none⟩), .pointer (some ⟨w2.heap.size, 0, none⟩)]) rfl (by kernel_rfl) (by kernel_rfl) (by kernel_rfl) (fun _ _ _ h => h) (Or.inl ⟨by rfl, fun W _ => by go_simp⟩) hS ?_
              try simp only [Act.put, List.setIfInBounds_toArray, List.set_cons_zero, List.set_cons_succ]
              refine wpAnyH_take (i := 5) (oi := ⟨some 100, _, _, _, _, _⟩) (v := .pointer (some ⟨wr3.heap.size, 1, none⟩)) rfl (by kernel_rfl) (by kernel_rfl) (by kernel_rfl) (fun _ _ _ h => h) (Or.inl ⟨by rfl, fun W _ => by go_simp⟩) hS ?_
              try simp only [Act.put, List.setIfInBounds_toArray, List.set_cons_zero, List.set_cons_succ]
              refine wpAnyH_take (i := 6) (oi := ⟨some 101, _, _, _, _, _⟩) (v := .int .i64 f.y) rfl (by kernel_rfl) (by kernel_rfl) (by kernel_rfl) (fun _ _ _ h => h) (Or.inl ⟨by rfl, fun W hW => by obtain ⟨a0, a1, a2, a3, a4, a5, a6, a7, a8, _⟩ := hW; go_simp⟩) hS ?_
              try simp only [Act.put, List.setIfInBounds_toArray, List.set_cons_zero, List.set_cons_succ]
              refine wpAnyH_take (i := 9) (oi := ⟨some 104, _, _, _, _, _⟩) (v := .pointer (some ⟨wr3.heap.size, 2, none⟩)) rfl (by kernel_rfl) (by kernel_rfl) (by kernel_rfl) (fun _ _ _ h => h) (Or.inl ⟨by rfl, fun W _ => by go_simp⟩) hS ?_
              try simp only [Act.put, List.setIfInBounds_toArray, List.set_cons_zero, List.set_cons_succ]
              refine wpAnyH_take (i := 10) (oi := ⟨some 105, _, _, _, _, _⟩) (v := .int .i64 f.c) rfl (by kernel_rfl) (by kernel_rfl) (by kernel_rfl) (fun _ _ _ h => h) (Or.inl ⟨by rfl, fun W hW => by obtain ⟨a0, a1, a2, a3, a4, a5, a6, a7, a8, _⟩ := hW; go_simp⟩) hS ?_
              try simp only [Act.put, List.setIfInBounds_toArray, List.set_cons_zero, List.set_cons_succ]
              refine wpAnyH_take (i := 12) (oi := ⟨some 107, _, _, _, _, _⟩) (v := .slice (some ⟨gv, 0, none⟩) M M) rfl (by kernel_rfl) (by kernel_rfl) (by kernel_rfl) (fun _ _ _ h => h) (Or.inl ⟨by rfl, fun W hW => by obtain ⟨a0, a1, a2, a3, a4, a5, a6, a7, a8, _⟩ := hW; go_simp⟩) hS ?_
              try simp only [Act.put, List.setIfInBounds_toArray, List.set_cons_zero, List.set_cons_succ]
              refine wpAnyH_take (i := 13) (oi := ⟨some 108, _, _, _, _, _⟩) (v := .pointer (some ⟨wr3.heap.size + 1, 0, none⟩)) rfl (by kernel_rfl) (by kernel_rfl) (by kernel_rfl) (fun _ _ _ h => h) (Or.inl ⟨by rfl, fun W _ => by go_simp⟩) hS ?_
              try simp only [Act.put, List.setIfInBounds_toArray, List.set_cons_zero, List.set_cons_succ]
              refine wpAnyH_take (i := 14) (oi := ⟨some 109, _, _, _, _, _⟩) (v := .int .i64 (gx : Int)) rfl (by kernel_rfl) (by kernel_rfl) (by kernel_rfl) (fun _ _ _ h => h) (Or.inl ⟨by rfl, fun W hW => by obtain ⟨a0, a1, a2, a3, a4, a5, a6, a7, a8, _⟩ := hW; go_simp⟩) hS ?_
              try simp only [Act.put, List.setIfInBounds_toArray, List.set_cons_zero, List.set_cons_succ]
              refine wpAnyH_take (i := 15) (oi := ⟨some 110, _, _, _, _, _⟩) (v := .pointer (some ⟨gv, gx, none⟩)) rfl (by kernel_rfl) (by kernel_rfl) (by kernel_rfl) (fun _ _ _ h => h) (Or.inl ⟨by rfl, fun W _ => by go_simp⟩) hS ?_
              try simp only [Act.put, List.setIfInBounds_toArray, List.set_cons_zero, List.set_cons_succ]
              refine wpAnyH_take (i := 16) (oi := ⟨some 111, _, _, _, _, _⟩) (v := .int .i64 vx) rfl (by kernel_rfl) (by kernel_rfl) (by kernel_rfl) (fun _ _ _ h => h) (Or.inl ⟨by rfl, fun W hW => by obtain ⟨a0, a1, a2, a3, a4, a5, a6, a7, a8, _⟩ := hW; go_simp⟩) hS ?_
              try simp only [Act.put, List.setIfInBounds_toArray, List.set_cons_zero, List.set_cons_succ]
              refine wpAnyH_take (i := 17) (oi := ⟨some 112, _, _, _, _, _⟩) (v := .slice (some ⟨gv, 0, none⟩) M M) rfl (by kernel_rfl) (by kernel_rfl) (by kernel_rfl) (fun _ _ _ h => h) (Or.inl ⟨by rfl, fun W hW => by obtain ⟨a0, a1, a2, a3, a4, a5, a6, a7, a8, _⟩ := hW; go_simp⟩) hS ?_
              try simp only [Act.put, List.setIfInBounds_toArray, List.set_cons_zero, List.set_cons_succ]
              refine wpAnyH_take (i := 18) (oi := ⟨some 113, _, _, _, _, _⟩) (v := .pointer (some ⟨wr3.heap.size + 1, 1, none⟩)) rfl (by kernel_rfl) (by kernel_rfl) (by kernel_rfl) (fun _ _ _ h => h) (Or.inl ⟨by rfl, fun W _ => by go_simp⟩) hS ?_
              try simp only [Act.put, List.setIfInBounds_toArray, List.set_cons_zero, List.set_cons_succ]
              refine wpAnyH_take (i := 19) (oi := ⟨some 114, _, _, _, _, _⟩) (v := .int .i64 (gy : Int)) rfl (by kernel_rfl) (by kernel_rfl) (by kernel_rfl) (fun _ _ _ h => h) (Or.inl ⟨by rfl, fun W hW => by obtain ⟨a0, a1, a2, a3, a4, a5, a6, a7, a8, _⟩ := hW; go_simp⟩) hS ?_
              try simp only [Act.put, List.setIfInBounds_toArray, List.set_cons_zero, List.set_cons_succ]
              refine wpAnyH_take (i := 20) (oi := ⟨some 115, _, _, _, _, _⟩) (v := .pointer (some ⟨gv, gy, none⟩)) rfl (by kernel_rfl) (by kernel_rfl) (by kernel_rfl) (fun _ _ _ h => h) (Or.inl ⟨by rfl, fun W _ => by go_simp⟩) hS ?_
              try simp only [Act.put, List.setIfInBounds_toArray, List.set_cons_zero, List.set_cons_succ]
              refine wpAnyH_take (i := 21) (oi := ⟨some 116, _, _, _, _, _⟩) (v := .int .i64 vy) rfl (by kernel_rfl) (by kernel_rfl) (by kernel_rfl) (fun _ _ _ h => h) (Or.inl ⟨by rfl, fun W hW => by obtain ⟨a0, a1, a2, a3, a4, a5, a6, a7, a8, _⟩ := hW; go_simp⟩) hS ?_
              try simp only [Act.put, List.setIfInBounds_toArray, List.set_cons_zero, List.set_cons_succ]
              refine wpAnyH_take (i := 22) (oi := ⟨some 117, _, _, _, _, _⟩) (v := .int .i64 (vx - vy)) rfl (by kernel_rfl) (by kernel_rfl) (by kernel_rfl) (fun _ _ _ h => h) (Or.inl ⟨by rfl, fun W _ => by go_simp⟩) hS ?_
              try simp only [Act.put, List.setIfInBounds_toArray, List.set_cons_zero, List.set_cons_succ]
              refine wpAnyH_take (i := 23) (oi := ⟨some 118, _, _, _, _, _⟩) (v := .pointer (some ⟨wr3.heap.size + 1, 2, none⟩)) rfl (by kernel_rfl) (by kernel_rfl) (by kernel_rfl) (fun _ _ _ h => h) (Or.inl ⟨by rfl, fun W _ => by go_simp⟩) hS ?_
              try simp only [Act.put, List.setIfInBounds_toArray, List.set_cons_zero, List.set_cons_succ]
              refine wpAnyH_take (i := 24) (oi := ⟨some 119, _, _, _, _, _⟩) (v := .int .i64 (overF ow f).c) rfl (by kernel_rfl) (by kernel_rfl) (by kernel_rfl) (fun _ _ _ h => h) (Or.inl ⟨by rfl, fun W hW => by obtain ⟨a0, a1, a2, a3, a4, a5, a6, a7, a8, _⟩ := hW; go_simp⟩) hS ?_
              try simp only [Act.put, List.setIfInBounds_toArray, List.set_cons_zero, List.set_cons_succ]
              refine wpAnyH_take (i := 25) (oi := ⟨some 120, _, _, _, _, _⟩) (v := .bool B) rfl (by kernel_rfl) (by kernel_rfl) (by kernel_rfl) (fun _ _ _ h => h) (Or.inl ⟨by rfl, fun W _ => by go_simp⟩) hS ?_
              try simp only [Act.put, List.setIfInBounds_toArray, List.set_cons_zero, List.set_cons_succ]
              refine AnyH.only (i := 3) (o := ⟨some 98, _, _, _, _, _⟩) (by kernel_rfl) rfl (by rfl) (fun K hK => ?_)
              go_simp
              refine (HCE.out f.x hfx _ hS.2.2.2.2.2.2.2.2.2).mono ?_
              rintro e w5 ⟨rfl, hb⟩
              have hS := (show _ ∧ _ ∧ _ ∧ _ ∧ _ ∧ _ ∧ _ ∧ _ ∧ _ ∧ _ from ⟨keepC hS.1 hb, keepC hS.2.1 hb, keepC hS.2.2.1 hb, keepC hS.2.2.2.1 hb, keepC hS.2.2.2.2.1 hb, keepC hS.2.2.2.2.2.1 hb, keepC hS.2.2.2.2.2.2.1 hb, keepC hS.2.2.2.2.2.2.2.1 hb, keepC hS.2.2.2.2.2.2.2.2.1 hb, hS.2.2.2.2.2.2.2.2.2.trans (hb.mono hS.2.2.2.2.2.2.2.2.2.size)⟩)
              clear hb
              refine hK.out _ _ hS ?_
              clear hK K
              try simp only [Act.put, List.setIfInBounds_toArray, List.set_cons_zero, List.set_cons_succ]
              refine AnyH.only (i := 7) (o := ⟨some 102, _, _, _, _, _⟩) (by kernel_rfl) rfl (by rfl) (fun K hK => ?_)
              go_simp
              refine (HCE.out f.y hfy _ hS.2.2.2.2.2.2.2.2.2).mono ?_
              rintro e w6 ⟨rfl, hb⟩
              have hS := (show _ ∧ _ ∧ _ ∧ _ ∧ _ ∧ _ ∧ _ ∧ _ ∧ _ ∧ _ from ⟨keepC hS.1 hb, keepC hS.2.1 hb, keepC hS.2.2.1 hb, keepC hS.2.2.2.1 hb, keepC hS.2.2.2.2.1 hb, keepC hS.2.2.2.2.2.1 hb, keepC hS.2.2.2.2.2.2.1 hb, keepC hS.2.2.2.2.2.2.2.1 hb, keepC hS.2.2.2.2.2.2.2.2.1 hb, hS.2.2.2.2.2.2.2.2.2.trans (hb.mono hS.2.2.2.2.2.2.2.2.2.size)⟩)
              clear hb
              refine hK.out _ _ hS ?_
              clear hK K
              try simp only [Act.put, List.setIfInBounds_toArray, List.set_cons_zero, List.set_cons_succ]
              refine wpAnyH_take (i := 8) (oi := ⟨some 103, _, _, _, _, _⟩) (v := .int .i64 (cellN vals ow f.x - cellN vals ow f.y)) rfl (by kernel_rfl) (by kernel_rfl) (by kernel_rfl) (fun _ _ _ h => h) (Or.inl ⟨by rfl, fun W _ => by go_simp⟩) hS ?_
              try simp only [Act.put, List.setIfInBounds_toArray, List.set_cons_zero, List.set_cons_succ]
              refine wpAnyH_take (i := 11) (oi := ⟨some 106, _, _, _, _, _⟩) (v := .bool B) rfl (by kernel_rfl) (by kernel_rfl) (by kernel_rfl) (fun _ _ _ h => h) (Or.inl ⟨by rfl, fun W _ => by go_simp⟩) hS ?_
              try simp only [Act.put, List.setIfInBounds_toArray, List.set_cons_zero, List.set_cons_succ]
              refine wpAnyH_take (i := 26) (oi := ⟨some 121, _, _, _, _, _⟩) (v := .bool false) rfl (by kernel_rfl) (by kernel_rfl) (by kernel_rfl) (fun _ _ _ h => h) (Or.inl ⟨by rfl, fun W _ => by go_simp⟩) hS ?_
              try simp only [Act.put, List.setIfInBounds_toArray, List.set_cons_zero, List.set_cons_succ]
              refine wpAnyH_done (by kernel_rfl) ?_ _
              have HBF := Lib.hid (HBJ.out.trans (hS.2.2.2.2.2.2.2.2.2.mono HBJ.out.size))
              clear hS
              go_wp2_with fail
              go_roundw
              case rel => exact ⟨j + 1, by omega, by go_num, HBF.out⟩
              case measure => simp [intOf]; omega
            · have hbf := HBR.out.trans ((HBO.out.trans (hb.mono HBO.out.size)).mono HBR.out.size)
              have HBF := Lib.hid hbf
              clear hb hbf
              go_wp2_with fail
              go_ret
              exact ⟨rfl, HBF.out⟩

theorem heapOver_reads (os : Os) {H : Type} (enc : TypeId × Value → H) : ∃ places, DataW.whole enc Try.prog ((World.holding Try.prog os ⟨#[], #[], []⟩).forCall (fun _ _ => 0) ⟨#[], #[Value.slice none 0 0, .slice none 0 0, .slice none 0 0], []⟩).memory Try.f5.params.toList Rows.heapOverSpec.vars false #[Value.slice none 0 0, .slice none 0 0, .slice none 0 0].toList 8 = some ([.nil, .nil, .nil], [], places) :=
  ⟨[], by kernel_rfl⟩

set_option maxRecDepth 100000 in
theorem heapOver_lifted (os : Os) (started : os.Started) (H : Type) (enc : TypeId × Value → H) (F : Stop.Interp) :
    ReturnsInHanded {} Try.checked os 5 .any ((OpenSpec.ofChange Rows.heapOverSpec).preRow enc Try.prog Try.f5 Rows.heapOverRow.domain false Rows.heapOverRow.laid) (((OpenSpec.ofChange Rows.heapOverSpec).at F).post enc Try.prog Try.f5 false true false false) := by
  obtain ⟨places, hx⟩ := heapOver_reads os enc
  refine returnsInHanded_of_row (C := Try.checked) (s := OpenSpec.ofChange Rows.heapOverSpec) own started (by kernel_rfl) Try.func5
    (witness_row_at (enc := enc) (C := Try.checked) false (World.holding Try.prog os ⟨#[], #[], []⟩) #[Value.slice none 0 0, .slice none 0 0, .slice none 0 0] rfl (by kernel_rfl) (by kernel_rfl) (by kernel_rfl)
      (OpenSpec.preRow_of_cond 8 hx (by kernel_rfl) (fun k hk => by cases hk) (by kernel_rfl) (laidMet_of_run' 8 (by kernel_rfl) (by kernel_rfl)))) ?_
  intro W base args ds gs before hval hW _ _ hreach _ _ _
  exact over_contract Try.params5 (by kernel_rfl) rfl (fun _ _ _ => rfl) heapOver_walk W base args ds gs before hval hW hreach

theorem heapOver_said : Rows.HeapOverSaid :=
  OpenClaim.holds_of_cond 5 Try.f5 rfl rfl rfl rfl rfl rfl rfl ⟨rfl, rfl, rfl, rfl, rfl⟩ rfl rfl rfl rfl rfl (by kernel_rfl) Try.func5 (by kernel_rfl)
    (of_decide_eq_true (by kernel_rfl)) (by unfold Func.isWrapper; first | (rw [if_pos (by decide +kernel)]; kernel_rfl) | (rw [if_neg (by decide +kernel)]; exact ⟨rfl, rfl⟩))
    (fun os started H enc _ F => by rw [OpenClaim.pre_eq_preRow]; exact heapOver_lifted os started H enc F)

end Go.Proofs.Ytejnjaikalckiaa
