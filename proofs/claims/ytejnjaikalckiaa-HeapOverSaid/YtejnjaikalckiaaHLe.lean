/- The contracts of heap's leaves: Number, wanted, cmp.Or, the closure of Over, Entails. -/
import Derived.Test.YtejnjaikalckiaaHFr
import Derived.Deep.RegionWith
namespace Go.Proofs.Ytejnjaikalckiaa
open Go.RowKit

theorem cell_lt {w : World} {b o : Nat} {v : Value} (h : w.cell? ⟨b, o, none⟩ = some v) : b < w.heap.size := World.block_lt_of_cell? w ⟨b, o, none⟩ h
theorem rsize {w w1 : World} (h : Below w.heap.size w w1) : w.heap.size ≤ w1.heap.size := h.size

set_option maxRecDepth 100000 in
set_option maxHeartbeats 1000000 in
theorem number_any (n : Int) (w : World) : Calls Try.prog 25 #[.int .i64 n] w fun e w' => e = .returned (SyV ⟨1, 0, n, 0⟩) ∧ Below w.heap.size w w' := by
  go_enter Try.func25, Try.ntmps25
  go_wp2
  refine bodyPost_ret (v := SyV ⟨1, 0, n, 0⟩) (by simp [results, Try.results25, go_sem, SyV]) rfl ?_
  exact ⟨rfl, by go_grown⟩

set_option maxRecDepth 100000 in
set_option maxHeartbeats 1000000 in
theorem wanted_any (s : Sy) (k : Int) (w : World) : Calls Try.prog 69 #[SyV s, .int .i64 k] w fun e w' => e = .returned (.int .i64 (wantE s k)) ∧ Below w.heap.size w w' := by
  obtain ⟨a, v, n, b⟩ := s
  unfold SyV wantE
  by_cases h1 : a = k
  · have t1 : (a == k) = true := by simpa using h1
    rw [if_pos h1]
    have H1 := Lib.hid h1
    clear h1
    go_enter Try.func69, Try.ntmps69
    go_wp2
    go_ret
    exact ⟨rfl, by go_grown⟩
  · have t1 : (a == k) = false := by simpa using h1
    rw [if_neg h1]
    clear h1
    by_cases h2 : a = 0
    · have t2 : (a == 0) = true := by simpa using h2
      rw [if_pos h2]
      clear h2
      go_enter Try.func69, Try.ntmps69
      go_wp2
      go_ret
      exact ⟨rfl, by go_grown⟩
    · have t2 : (a == 0) = false := by simpa using h2
      rw [if_neg h2]
      clear h2
      go_enter Try.func69, Try.ntmps69
      go_wp2
      go_ret
      exact ⟨rfl, by go_grown⟩

/- The first of two that isn't 0. -/
def orE (a b : Int) : Int := if a ≠ 0 then a else b
set_option maxRecDepth 100000 in
set_option maxHeartbeats 2000000 in
theorem or_any (a b : Int) (g : Nat) (w : World) (h0 : w.cell? ⟨g, 0, none⟩ = some (.int .i64 a)) (h1 : w.cell? ⟨g, 1, none⟩ = some (.int .i64 b)) : Calls Try.prog 68 #[.slice (some ⟨g, 0, none⟩) 2 2] w fun e w' => e = .returned (.int .i64 (orE a b)) ∧ w = w' := by
  unfold orE
  by_cases ha : a = 0
  · have ta : (a != 0) = false := by simpa using ha
    rw [if_neg (by simpa using ha)]
    clear ha
    by_cases hb : b = 0
    · subst hb
      go_enter Try.func68, Try.ntmps68
      go_wp2_with fail
      refine wp_loop_rounds 3 ?_
      rw [rounds_succ]
      go_wp2_with fail
      rw [rounds_succ]
      go_wp2_with fail
      rw [rounds_succ]
      go_wp2_with fail
      go_ret
      exact ⟨rfl, rfl⟩
    · have tb : (b != 0) = true := by simpa using hb
      clear hb
      go_enter Try.func68, Try.ntmps68
      go_wp2_with fail
      refine wp_loop_rounds 3 ?_
      rw [rounds_succ]
      go_wp2_with fail
      rw [rounds_succ]
      go_wp2_with fail
      go_ret
      exact ⟨rfl, rfl⟩
  · have ta : (a != 0) = true := by simpa using ha
    rw [if_pos (by simpa using ha)]
    clear ha
    go_enter Try.func68, Try.ntmps68
    go_wp2_with fail
    refine wp_loop_rounds 3 ?_
    rw [rounds_succ]
    go_wp2_with fail
    go_ret
    exact ⟨rfl, rfl⟩

/- A list of values in memory, its blocks below B. -/
def SysAt (w : World) (B : Nat) (A : Option Addr) (l : List Sy) : Prop :=
  0 < l.length → ∃ b off, A = some ⟨b, off, none⟩ ∧ b < B ∧ ∀ i s, l[i]? = some s → w.cell? ⟨b, off + i * 4, none⟩ = some (.int .i64 s.kind) ∧ w.cell? ⟨b, off + i * 4 + 1, none⟩ = some (.int .i64 s.v) ∧ w.cell? ⟨b, off + i * 4 + 2, none⟩ = some (.int .i64 s.k) ∧ w.cell? ⟨b, off + i * 4 + 3, none⟩ = some (.int .i64 s.b)
theorem SysAt.below {w w' : World} {B B' : Nat} {A : Option Addr} {l : List Sy} (h : SysAt w B A l) (hb : Below B' w w') (hB : B ≤ B') : SysAt w' B A l := fun hn => by
  obtain ⟨b, off, e, hlt, hc⟩ := h hn
  refine ⟨b, off, e, hlt, fun i s hs => ?_⟩
  obtain ⟨h0, h1, h2, h3⟩ := hc i s hs
  exact ⟨(hb.cell (p := ⟨b, off + i * 4, none⟩) (by show b < B'; omega)).trans h0, (hb.cell (p := ⟨b, off + i * 4 + 1, none⟩) (by show b < B'; omega)).trans h1, (hb.cell (p := ⟨b, off + i * 4 + 2, none⟩) (by show b < B'; omega)).trans h2, (hb.cell (p := ⟨b, off + i * 4 + 3, none⟩) (by show b < B'; omega)).trans h3⟩
theorem SysAt.more {w : World} {B B' : Nat} {A : Option Addr} {l : List Sy} (h : SysAt w B A l) (hB : B ≤ B') : SysAt w B' A l := fun hn => by
  obtain ⟨b, off, e, hlt, hc⟩ := h hn
  exact ⟨b, off, e, by omega, hc⟩
theorem SysAt.of_own {w : World} {base cap : Nat} {A : Option Addr} {l : List Sy} {t : TypeId} (h : w.ownsRow base t 4 (.slice A l.length cap) l.length (l.map syCells).flatten) : SysAt w w.heap.size A l := fun hn => by
  obtain ⟨g, cap', e, _, _⟩ := row_pos h hn
  cases e
  refine ⟨g, 0, rfl, row_lt h rfl, fun i s hs => ?_⟩
  have hi := (List.getElem?_eq_some_iff.1 hs).1
  have key : ∀ q, q < 4 → w.cell? ⟨g, 0 + i * 4 + q, none⟩ = (syCells s)[q]? := fun q hq => by
    rw [Nat.zero_add, h.cellAt (i * 4 + q) (by omega)]
    exact flatL_get (sy_each _) (by rw [List.getElem?_map, hs]; rfl) q hq
  exact ⟨key 0 (by omega), key 1 (by omega), key 2 (by omega), key 3 (by omega)⟩

set_option maxRecDepth 100000 in
set_option maxHeartbeats 2000000 in
theorem side_any {A : Option Addr} {cap : Nat} {l : List Sy} (v : Int) (hv : -1000000 ≤ v ∧ v ≤ 1000000) (hl : l.length ≤ 1000000) (g : Nat) (w : World) (hg : w.cell? ⟨g, 0, none⟩ = some (.slice A l.length cap)) (hA : SysAt w w.heap.size A l) :
    Calls Try.prog 49 #[.int .i64 v, .pointer (some ⟨g, 0, none⟩)] w fun e w' => e = .returned (SyV (sideY l v)) ∧ Below w.heap.size w w' := by
  have hlt := cell_lt hg
  unfold sideY
  by_cases h1 : v < 1 ∨ (l.length : Int) < v
  · rw [if_pos h1]
    clear hA
    by_cases h2 : v < 1
    · clear h1
      go_enter Try.func49, Try.ntmps49
      go_wp2_with fail
      refine (number_any 0 _).mono ?_
      rintro e w1 ⟨rfl, hb⟩
      have hk := (Blk.new w [.int .i64 0, .int .i64 0, .int .i64 0, .int .i64 0] 36).stays hb
      have HB := Lib.hid (((Below.refl w.heap.size w).alloc (Nat.le_refl _) _).trans (hb.mono (by simp)))
      obtain ⟨k0, k1, k2, k3, kz, klt⟩ := hk.four
      have HK := Lib.hid hk
      clear hb hk
      unfold SyV
      go_wp2
      refine ret_box (v := SyV ⟨1, 0, 0, 0⟩) ((((HK.out.put 0 (.int .i64 1)).put 1 (.int .i64 0)).put 2 (.int .i64 0)).put 3 (.int .i64 0)) (fun W' hb => ?_) rfl ?_
      · obtain ⟨q0, q1, q2, q3, _⟩ := hb.four
        simp [results, Try.results49, go_sem, SyV, q0, q1, q2, q3]
      · exact ⟨rfl, (((HB.out.setCell (p := ⟨w.heap.size, 0, none⟩) (Nat.le_refl _) _).setCell (p := ⟨w.heap.size, 1, none⟩) (Nat.le_refl _) _).setCell (p := ⟨w.heap.size, 2, none⟩) (Nat.le_refl _) _).setCell (p := ⟨w.heap.size, 3, none⟩) (Nat.le_refl _) _⟩
    · have h3 : (l.length : Int) < v := by omega
      clear h1
      go_enter Try.func49, Try.ntmps49
      go_wp2_with fail
      refine (number_any 0 _).mono ?_
      rintro e w1 ⟨rfl, hb⟩
      have hk := (Blk.new w [.int .i64 0, .int .i64 0, .int .i64 0, .int .i64 0] 36).stays hb
      have HB := Lib.hid (((Below.refl w.heap.size w).alloc (Nat.le_refl _) _).trans (hb.mono (by simp)))
      obtain ⟨k0, k1, k2, k3, kz, klt⟩ := hk.four
      have HK := Lib.hid hk
      clear hb hk
      unfold SyV
      go_wp2
      refine ret_box (v := SyV ⟨1, 0, 0, 0⟩) ((((HK.out.put 0 (.int .i64 1)).put 1 (.int .i64 0)).put 2 (.int .i64 0)).put 3 (.int .i64 0)) (fun W' hb => ?_) rfl ?_
      · obtain ⟨q0, q1, q2, q3, _⟩ := hb.four
        simp [results, Try.results49, go_sem, SyV, q0, q1, q2, q3]
      · exact ⟨rfl, (((HB.out.setCell (p := ⟨w.heap.size, 0, none⟩) (Nat.le_refl _) _).setCell (p := ⟨w.heap.size, 1, none⟩) (Nat.le_refl _) _).setCell (p := ⟨w.heap.size, 2, none⟩) (Nat.le_refl _) _).setCell (p := ⟨w.heap.size, 3, none⟩) (Nat.le_refl _) _⟩
  · rw [if_neg h1]
    have h2 : ¬ v < 1 := by omega
    have h3 : ¬ (l.length : Int) < v := by omega
    obtain ⟨j, hj⟩ : ∃ j : Nat, v - 1 = (j : Int) := ⟨(v - 1).toNat, by omega⟩
    rw [hj, Int.toNat_natCast]
    have hjl : j < l.length := by omega
    obtain ⟨b, off, rfl, hbl, hcell⟩ := hA (by omega)
    obtain ⟨s, hs⟩ : ∃ s, l[j]? = some s := ⟨_, List.getElem?_eq_getElem hjl⟩
    obtain ⟨c0, c1, c2, c3⟩ := hcell j s hs
    have hgd : l.getD j sy0 = s := by rw [List.getD_eq_getElem?_getD, hs]; rfl
    rw [hgd]
    obtain ⟨a, sv, sk, sb⟩ := s
    have hj2 : (j : Int) < (l.length : Int) := by omega
    clear hcell hgd hs h1
    simp only at c0 c1 c2 c3 ⊢
    by_cases h4 : a = 1
    · have t4 : (a != 1) = false := by simpa using h4
      rw [if_neg (by simpa using h4)]
      clear h4
      go_enter Try.func49, Try.ntmps49
      go_wp2
      refine bodyPost_ret (v := SyV ⟨a, sv, sk, sb⟩) (by simp [results, Try.results49, go_sem, SyV]) rfl ?_
      exact ⟨rfl, by go_grown⟩
    · have t4 : (a != 1) = true := by simpa using h4
      rw [if_pos (by simpa using h4)]
      clear h4
      go_enter Try.func49, Try.ntmps49
      go_wp2_with fail
      refine (number_any 0 _).mono ?_
      rintro e w1 ⟨rfl, hb⟩
      have hk := (Blk.new w [.int .i64 0, .int .i64 0, .int .i64 0, .int .i64 0] 36).stays hb
      have HB := Lib.hid (((Below.refl w.heap.size w).alloc (Nat.le_refl _) _).trans (hb.mono (by simp)))
      obtain ⟨k0, k1, k2, k3, kz, klt⟩ := hk.four
      have HK := Lib.hid hk
      clear hb hk
      unfold SyV
      go_wp2
      refine ret_box (v := SyV ⟨1, 0, 0, 0⟩) ((((HK.out.put 0 (.int .i64 1)).put 1 (.int .i64 0)).put 2 (.int .i64 0)).put 3 (.int .i64 0)) (fun W' hb => ?_) rfl ?_
      · obtain ⟨q0, q1, q2, q3, _⟩ := hb.four
        simp [results, Try.results49, go_sem, SyV, q0, q1, q2, q3]
      · exact ⟨rfl, (((HB.out.setCell (p := ⟨w.heap.size, 0, none⟩) (Nat.le_refl _) _).setCell (p := ⟨w.heap.size, 1, none⟩) (Nat.le_refl _) _).setCell (p := ⟨w.heap.size, 2, none⟩) (Nat.le_refl _) _).setCell (p := ⟨w.heap.size, 3, none⟩) (Nat.le_refl _) _⟩

set_option maxRecDepth 100000 in
set_option maxHeartbeats 4000000 in
theorem hEnt_any {w0 w : World} {R : Thing} {b : Nat} {vc vf : Value} {vs : List Value} {H : Hp} {olds : List (Value × Nat)} (h : HS pT w0 w R b vc vf vs H olds) (f : F) :
    Calls Try.prog 10 #[.pointer (some ⟨b, 0, none⟩), .agg #[.int .i64 f.x, .int .i64 f.y, .int .i64 f.c]] w fun e w' => e = .returned (.bool (entH H f)) ∧ Below w.heap.size w w' := by
  obtain ⟨A, cap, rfl, hfa, hcap, hcm⟩ := HSg.factsForm h
  obtain ⟨c0, c1, c2, z, hlt⟩ := HSg.three h
  have HF := Lib.hid hfa
  clear h hfa
  go_enter Try.func10, Try.ntmps10
  go_wp2_with fail
  have HF2 := Lib.hid ((HF.out.below (B' := w.heap.size) (((Below.refl w.heap.size w).alloc (Nat.le_refl _) (.cells #[.int .i64 f.x, .int .i64 f.y, .int .i64 f.c] 45)).drew) (Nat.le_refl _)).more (B' := ((w.alloc (.cells #[.int .i64 f.x, .int .i64 f.y, .int .i64 f.c] 45)).drew).heap.size) (by simp))
  clear HF
  go_region_with ((with_reducible refine (entails_any H.vars f A cap H.facts _ HF2.out hcap hcm).mono ?_); rintro e w1 ⟨r, rfl, h1, h2, hb⟩)
  all_goals
    have HR : Hid (r = entH H f) := Lib.hid (by
      unfold entH
      rw [Bool.eq_iff_iff, entC_iff]
      exact ⟨fun h => ⟨h1 h, (h2 (h1 h)).1 h⟩, fun h => (h2 h.1).2 h.2⟩)
    have HB := Lib.hid ((((Below.refl w.heap.size w).alloc (Nat.le_refl _) _).drew).trans (hb.mono (by simp)))
    clear h1 h2 hb
    try go_wp2
    go_ret
    exact ⟨ret_bool HR.out, HB.out⟩

end Go.Proofs.Ytejnjaikalckiaa
