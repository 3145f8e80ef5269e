/- The contracts of the linker's resolve and main. -/
import Derived.Test.YtnmpfpnldcgbaaaDoorLnk2
import Derived.Deep.DeepCutAuto
namespace Go.Proofs.YtnmpfpnldcgbaaaDoor
open Go.RowKit Go.Maps

theorem below_nqL {B : Nat} {a w : World} (h : Below B a w) (n : Nat) : Below B a (w.drewN n) := ⟨h.os, h.tape, h.output, h.size, h.block⟩
theorem isLib_quiet {L M libs : Nat} {v : Value} (W : World) (p q : Nat) (h : Blk W L (lkCells v libs M) 98) (n : Int) (b : Bool) (hb : decide (n < (libs : Int)) = b) :
    Calls Tryd.prog 65 #[.pointer (some ⟨L, 0, none⟩), .int .i64 n] (W.drewN (p + q)) fun e w'' => e = .returned (.bool b) ∧ ∃ m, w'' = W.drewN (p + m) :=
  (isLib_any (w := W.drewN (p + q)) h n).mono fun _ _ ⟨he, hw⟩ => ⟨by rw [he, hb], q, hw.symm⟩
theorem heap_drewN (W : World) (q : Nat) : (W.drewN q).heap = W.heap := rfl
def resV (cs : List Cod) (libs : Nat) (op : Int) (y : ByteArray) (n : Nat) : Int :=
  bif op == 12 || op == 13 then
    match findN cs y with
    | none => 31
    | some k => bif (decide (k < libs)) != (op == 12) then 31 else bif ((cs.getD k cod0).params.length : Int) != (n : Int) then 51 else 0
  else 0
theorem getD_cod {cs : List Cod} {k : Nat} {c : Cod} (h : cs[k]? = some c) : cs.getD k cod0 = c := by simp [List.getD, h]

set_option maxRecDepth 100000 in
set_option maxHeartbeats 2000000 in
theorem resolve_any {w : World} {B L M : Nat} {cs : List Cod} {libs : Nat} {v : Value} (h : LkSt w B L M cs libs v) {op : Int} {pl : Nat} {x y an bn : ByteArray} {am bm tt : Int} {A : Option Addr} {n cap : Nat} {has : Bool} (hy : y.size ≤ maxLen)
    {i : Ins} (h1 : i.op = op) (h2 : i.y = y) (h3 : i.args.length = n) :
    Calls Tryd.prog 64 #[.pointer (some ⟨L, 0, none⟩), .agg #[.int .i64 op, .int .i64 pl, .string x, .string y, .string an, .int .i64 am, .string bn, .int .i64 bm, .slice A n cap, .int .i64 tt, .bool has]] w fun e w' => e = .returned (.int .i64 (resL cs libs i)) ∧ Below w.heap.size w w' := by
  have hres : resL cs libs i = resV cs libs op y n := by subst h1 h2 h3; rfl
  rw [hres]
  clear hres h1 h2 h3 i
  obtain ⟨c, hc, hrun⟩ := h.m.look hy
  obtain ⟨W0, hW0⟩ : ∃ W0, w.alloc (.cells [.int .i64 op, .int .i64 pl, .string x, .string y, .string an, .int .i64 am, .string bn, .int .i64 bm, .slice A n cap, .int .i64 tt, .bool has].toArray 43) = W0 := ⟨_, rfl⟩
  have H0 := Lib.hid (show LkSt W0 B L M cs libs v from hW0 ▸ h.alloc _)
  have HB := Lib.hid (show Below w.heap.size w W0 from hW0 ▸ (Below.refl _ _).alloc (Nat.le_refl _) _)
  have HI := Lib.hid (show Blk W0 w.heap.size [.int .i64 op, .int .i64 pl, .string x, .string y, .string an, .int .i64 am, .string bn, .int .i64 bm, .slice A n cap, .int .i64 tt, .bool has] 43 from hW0 ▸ Blk.new w _ _)
  have hlk : ∀ q, (Instr.lookup 66 (.map (some M)) (.string y) true).run Tryd.prog (W0.drewN q) = .ok (.tuple #[.int .i64 c, .bool (findN cs y).isSome]) (W0.drewN q) := fun q => hrun _ ((heap_drewN W0 q).symm ▸ HB.out.block M h.m.lt)
  have o0 : W0.cell? ⟨w.heap.size, 0, none⟩ = some (.int .i64 op) := HI.out.cell 0
  have o3 : W0.cell? ⟨w.heap.size, 3, none⟩ = some (.string y) := HI.out.cell 3
  have o6 : W0.cell? ⟨w.heap.size, 8, none⟩ = some (.slice A n cap) := HI.out.cell 8
  have l2 : W0.cell? ⟨L, 2, none⟩ = some (.map (some M)) := H0.out.l.cell 2
  have l0 : W0.cell? ⟨L, 0, none⟩ = some v := H0.out.l.cell 0
  clear hrun h
  go_enter Tryd.func64, Tryd.ntmps64
  go_upto_region 1 with fail
  try rw [hW0]
  clear hW0
  have h4 : op = 12 ∨ op = 13 ∨ ((op == 12) = false ∧ (op == 13) = false ∧ (op != 12) = true ∧ (op != 13) = true) := by simp only [beq_eq_false_iff_ne, bne_iff_ne, ne_eq]; omega
  rcases h4 with rfl | rfl | ⟨b1, b2, b3, b4⟩
  · cases hf : findN cs y with
    | none =>
      rw [hf] at hlk
      go_wp2_with fail
      go_quiet (fail)
      go_wp2_with fail
      go_quiet (fail)
      go_wp2_with fail
      go_ret
      refine ⟨?_, below_nqL (below_nqL HB.out _) _⟩
      unfold resV
      rw [hf]
      rfl
    | some k =>
      obtain rfl := hc k hf
      have hkl := findN_lt hf
      obtain ⟨g, cap', rfl, hg, hcap, hcm, hget⟩ := (show ∃ g cap', v = .slice (some ⟨g, 0, none⟩) cs.length cap' ∧ _ from (H0.out.c.form).resolve_left fun h => by rw [h.2] at hkl; simp at hkl)
      obtain ⟨pv, lv, hra, hca⟩ := hget k _ (List.getElem?_eq_getElem hkl)
      obtain ⟨pa, pc, rfl⟩ := hca.1.slice
      have hD : cs.getD k cod0 = cs[k] := getD_cod (List.getElem?_eq_getElem hkl)
      generalize cs[k] = cd at hra hca hD
      have e1 : W0.cell? ⟨g, k * 3 + 1, none⟩ = some (.slice pa cd.params.length pc) := hra 1 _ rfl
      have hk1 : (k : Int) < (cs.length : Int) := by omega
      have hk0 : (0 : Int) ≤ (k : Int) := by omega
      have HR := Lib.hid (show resV cs libs 12 y n = bif (decide (k < libs)) != true then 31 else bif (cd.params.length : Int) != (n : Int) then 51 else 0 by unfold resV; rw [hf, ← hD]; rfl)
      rw [hf] at hlk
      unfold maxLen at hcm
      clear hget hra hca hD hf
      go_wp2_with fail
      go_quiet (fail)
      by_cases hkx : k < libs
      · have hki : (k : Int) < (libs : Int) := by omega
        have hkd : decide ((k : Int) < (libs : Int)) = true := by simpa using hki
        have HR2 := Lib.hid (show decide (k < libs) = true by simpa using hkx)
        go_wp2_with fail
        go_quiet (exact isLib_quiet (libs := libs) (M := M) W0 _ _ H0.out.l _ _ hkd)
        go_wp2_with fail
        go_quiet (fail)
        by_cases hpn : cd.params.length = n
        · have hpe : ((cd.params.length : Int) != (n : Int)) = false := by simp [hpn]
          go_wp2_with fail
          go_ret
          refine ⟨?_, (by repeat (first | exact HB.out | apply below_nqL))⟩
          rw [HR.out, HR2.out, hpe]
          rfl
        · have hpe : ((cd.params.length : Int) != (n : Int)) = true := by simp; omega
          go_wp2_with fail
          go_ret
          refine ⟨?_, (by repeat (first | exact HB.out | apply below_nqL))⟩
          rw [HR.out, HR2.out, hpe]
          rfl
      · have hkd : decide ((k : Int) < (libs : Int)) = false := by simp; omega
        have HR2 := Lib.hid (show decide (k < libs) = false by simpa using hkx)
        go_wp2_with fail
        go_quiet (exact isLib_quiet (libs := libs) (M := M) W0 _ _ H0.out.l _ _ hkd)
        go_wp2_with fail
        go_ret
        refine ⟨?_, (by repeat (first | exact HB.out | apply below_nqL))⟩
        rw [HR.out, HR2.out]
        rfl
  · cases hf : findN cs y with
    | none =>
      rw [hf] at hlk
      go_wp2_with fail
      go_quiet (fail)
      go_wp2_with fail
      go_quiet (fail)
      go_wp2_with fail
      go_ret
      refine ⟨?_, below_nqL (below_nqL HB.out _) _⟩
      unfold resV
      rw [hf]
      rfl
    | some k =>
      obtain rfl := hc k hf
      have hkl := findN_lt hf
      obtain ⟨g, cap', rfl, hg, hcap, hcm, hget⟩ := (show ∃ g cap', v = .slice (some ⟨g, 0, none⟩) cs.length cap' ∧ _ from (H0.out.c.form).resolve_left fun h => by rw [h.2] at hkl; simp at hkl)
      obtain ⟨pv, lv, hra, hca⟩ := hget k _ (List.getElem?_eq_getElem hkl)
      obtain ⟨pa, pc, rfl⟩ := hca.1.slice
      have hD : cs.getD k cod0 = cs[k] := getD_cod (List.getElem?_eq_getElem hkl)
      generalize cs[k] = cd at hra hca hD
      have e1 : W0.cell? ⟨g, k * 3 + 1, none⟩ = some (.slice pa cd.params.length pc) := hra 1 _ rfl
      have hk1 : (k : Int) < (cs.length : Int) := by omega
      have hk0 : (0 : Int) ≤ (k : Int) := by omega
      have HR := Lib.hid (show resV cs libs 13 y n = bif (decide (k < libs)) != false then 31 else bif (cd.params.length : Int) != (n : Int) then 51 else 0 by unfold resV; rw [hf, ← hD]; rfl)
      rw [hf] at hlk
      unfold maxLen at hcm
      clear hget hra hca hD hf
      go_wp2_with fail
      go_quiet (fail)
      by_cases hkx : k < libs
      · have hki : (k : Int) < (libs : Int) := by omega
        have hkd : decide ((k : Int) < (libs : Int)) = true := by simpa using hki
        have HR2 := Lib.hid (show decide (k < libs) = true by simpa using hkx)
        go_wp2_with fail
        go_quiet (exact isLib_quiet (libs := libs) (M := M) W0 _ _ H0.out.l _ _ hkd)
        go_wp2_with fail
        go_ret
        refine ⟨?_, (by repeat (first | exact HB.out | apply below_nqL))⟩
        rw [HR.out, HR2.out]
        rfl
      · have hkd : decide ((k : Int) < (libs : Int)) = false := by simp; omega
        have HR2 := Lib.hid (show decide (k < libs) = false by simpa using hkx)
        go_wp2_with fail
        go_quiet (exact isLib_quiet (libs := libs) (M := M) W0 _ _ H0.out.l _ _ hkd)
        go_wp2_with fail
        go_quiet (fail)
        by_cases hpn : cd.params.length = n
        · have hpe : ((cd.params.length : Int) != (n : Int)) = false := by simp [hpn]
          go_wp2_with fail
          go_ret
          refine ⟨?_, (by repeat (first | exact HB.out | apply below_nqL))⟩
          rw [HR.out, HR2.out, hpe]
          rfl
        · have hpe : ((cd.params.length : Int) != (n : Int)) = true := by simp; omega
          go_wp2_with fail
          go_ret
          refine ⟨?_, (by repeat (first | exact HB.out | apply below_nqL))⟩
          rw [HR.out, HR2.out, hpe]
          rfl
  · go_wp2_with fail
    go_ret
    refine ⟨?_, HB.out⟩
    unfold resV
    rw [b1, b2]
    rfl

set_option maxRecDepth 100000 in
set_option maxHeartbeats 2000000 in
theorem lmain_any {w : World} {B L M : Nat} {cs : List Cod} {libs : Nat} {v : Value} (h : LkSt w B L M cs libs v) :
    Calls Tryd.prog 44 #[.pointer (some ⟨L, 0, none⟩)] w fun e w' => e = .returned (.tuple #[.int .i64 (((mainL cs libs).getD 0 : Nat) : Int), .bool (mainL cs libs).isSome]) ∧ w = w' := by
  obtain ⟨c, hc, hrun⟩ := h.m.look (s := mainS) (by unfold maxLen; decide)
  have hlk : (Instr.lookup 66 (.map (some M)) (.string ⟨#[109, 97, 105, 110]⟩) true).run Tryd.prog w = .ok (.tuple #[.int .i64 c, .bool (findN cs mainS).isSome]) w := hrun w rfl
  have l2 : w.cell? ⟨L, 2, none⟩ = some (.map (some M)) := h.l.cell 2
  have l0 : w.cell? ⟨L, 0, none⟩ = some v := h.l.cell 0
  have H := Lib.hid h
  clear hrun h
  go_enter Tryd.func44, Tryd.ntmps44
  cases hf : findN cs mainS with
  | none =>
    rw [hf] at hlk
    have HR := Lib.hid (show mainL cs libs = none by unfold mainL; rw [hf])
    go_wp2_with fail
    go_ret2
    rw [HR.out]
    exact ⟨rfl, rfl⟩
  | some k =>
    obtain rfl := hc k hf
    have hkl := findN_lt hf
    obtain ⟨g, cap', rfl, hg, hcap, hcm, hget⟩ := (show ∃ g cap', v = .slice (some ⟨g, 0, none⟩) cs.length cap' ∧ _ from (H.out.c.form).resolve_left fun h => by rw [h.2] at hkl; simp at hkl)
    obtain ⟨pv, lv, hra, hca⟩ := hget k _ (List.getElem?_eq_getElem hkl)
    obtain ⟨pa, pc, rfl⟩ := hca.1.slice
    have hD : cs.getD k cod0 = cs[k] := getD_cod (List.getElem?_eq_getElem hkl)
    generalize cs[k] = cd at hra hca hD
    have e1 : w.cell? ⟨g, k * 3 + 1, none⟩ = some (.slice pa cd.params.length pc) := hra 1 _ rfl
    have hk1 : (k : Int) < (cs.length : Int) := by omega
    have hk0 : (0 : Int) ≤ (k : Int) := by omega
    have HR := Lib.hid (show mainL cs libs = bif decide (k < libs) || decide (0 < cd.params.length) then none else some k by unfold mainL; rw [hf, ← hD])
    rw [hf] at hlk
    unfold maxLen at hcm
    clear hget hra hca hD hf
    go_wp2_with fail
    refine (isLib_any (libs := libs) (M := M) H.out.l _).mono ?_
    rintro e w1 ⟨rfl, rfl⟩
    by_cases hkx : k < libs
    · have hkd : decide ((k : Int) < (libs : Int)) = true := by simp; omega
      rw [hkd]
      go_wp2_with fail
      go_ret2
      rw [HR.out, show decide (k < libs) = true by simpa using hkx]
      exact ⟨rfl, rfl⟩
    · have hkd : decide ((k : Int) < (libs : Int)) = false := by simp; omega
      rw [hkd]
      by_cases hpn : 0 < cd.params.length
      · have hpi : (0 : Int) < (cd.params.length : Int) := by omega
        go_wp2_with fail
        go_ret2
        rw [HR.out, show decide (k < libs) = false by simpa using hkx, show decide (0 < cd.params.length) = true by simpa using hpn]
        exact ⟨rfl, rfl⟩
      · have hpi : ¬ (0 : Int) < (cd.params.length : Int) := by omega
        go_wp2_with fail
        go_ret2
        rw [HR.out, show decide (k < libs) = false by simpa using hkx, show decide (0 < cd.params.length) = false by simpa using hpn]
        exact ⟨rfl, rfl⟩

end Go.Proofs.YtnmpfpnldcgbaaaDoor
