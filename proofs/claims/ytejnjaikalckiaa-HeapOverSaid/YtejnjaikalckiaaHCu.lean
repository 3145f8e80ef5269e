/- The contracts of lychgatelaw13.cut and sym. -/
import Derived.Test.YtejnjaikalckiaaHWk
namespace Go.Proofs.Ytejnjaikalckiaa
open Go.RowKit

def cutI (n : Int) : Int := max (-1099511627776) (min n 1099511627776)
theorem cutI_bd (n : Int) : -1099511627776 ≤ cutI n ∧ cutI n ≤ 1099511627776 := by unfold cutI; omega
theorem cutI_near (n : Int) : Near (cutI n) := by have := cutI_bd n; exact ⟨by omega, by omega⟩
set_option maxHeartbeats 1000000 in
theorem cut_any (n : Int) (w : World) : Calls Try.prog 15 #[.int .i64 n] w fun e w' => e = .returned (.int .i64 (cutI n)) ∧ w = w' := by
  go_enter Try.func15, Try.ntmps15
  go_wp2
  all_goals go_ret
  all_goals refine ⟨ret_int ?_, rfl⟩
  all_goals
    unfold cutI
    omega

def symH (n m : Int) (s : Sy) : Sy := if s.kind = 1 then ⟨1, max 0 s.v % n, cutI s.k, 0⟩ else if s.kind = 2 then (if 0 < m then ⟨2, 0, 0, max 0 s.b % m⟩ else sy0) else sy0

set_option maxRecDepth 100000 in
set_option maxHeartbeats 4000000 in
theorem sym_any (b : Nat) {A : Option Addr} {m cap : Nat} {n : Int} (s : Sy) (w : World) (h0 : w.cell? ⟨b, 0, none⟩ = some (.slice A m cap)) (h1 : w.cell? ⟨b, 1, none⟩ = some (.int .i64 n)) (hn : 1 ≤ n ∧ n ≤ 1000) (hm : m ≤ 1000000) :
    Calls Try.prog 16 #[.pointer (some ⟨b, 0, none⟩), SyV s] w fun e w' => e = .returned (SyV (symH n m s)) ∧ Below w.heap.size w w' := by
  obtain ⟨a, v, k, q⟩ := s
  have hlt := cell_lt h0
  obtain ⟨hn1, hn2⟩ := hn
  by_cases h2 : a = 2
  · subst h2
    by_cases hm0 : m = 0
    · have e1 : Hid (symH n m ⟨2, v, k, q⟩ = sy0) := Lib.hid (by unfold symH; simp [hm0])
      rw [e1.out]
      subst hm0
      unfold SyV
      go_enter Try.func16, Try.ntmps16
      go_wp2
      refine bodyPost_ret (v := SyV sy0) (by simp [results, Try.results16, go_sem, SyV, sy0]) rfl ?_
      exact ⟨rfl, by go_grown⟩
    · have hm1 : (1 : Int) ≤ (m : Int) := by omega
      have hm2 : (0 : Int) < (m : Int) := by omega
      rcases (show (0 < q ∧ max 0 q = q) ∨ (¬ 0 < q ∧ max 0 q = 0) by omega) with ⟨hq, hqm⟩ | ⟨hq, hqm⟩
      · have e1 : Hid (symH n m ⟨2, v, k, q⟩ = ⟨2, 0, 0, q % m⟩) := Lib.hid (by unfold symH; simp only; rw [hqm]; simp; omega)
        rw [e1.out]
        unfold SyV
        go_enter Try.func16, Try.ntmps16
        go_wp2_with fail
        refine bodyPost_ret (v := SyV ⟨2, 0, 0, q % m⟩) (by simp [results, Try.results16, go_sem, SyV]) rfl ?_
        exact ⟨rfl, by go_grown⟩
      · have e1 : Hid (symH n m ⟨2, v, k, q⟩ = ⟨2, 0, 0, 0⟩) := Lib.hid (by unfold symH; simp only; rw [hqm]; simp; omega)
        rw [e1.out]
        unfold SyV
        go_enter Try.func16, Try.ntmps16
        go_wp2_with fail
        refine bodyPost_ret (v := SyV ⟨2, 0, 0, 0⟩) (by simp [results, Try.results16, go_sem, SyV]) rfl ?_
        exact ⟨rfl, by go_grown⟩
  · have t2 : (a == 2) = false := by simpa using h2
    by_cases h3 : a = 1
    · subst h3
      clear h2 t2
      rcases (show (0 < v ∧ max 0 v = v) ∨ (¬ 0 < v ∧ max 0 v = 0) by omega) with ⟨hq, hqm⟩ | ⟨hq, hqm⟩
      · have e1 : Hid (symH n m ⟨1, v, k, q⟩ = ⟨1, v % n, cutI k, 0⟩) := Lib.hid (by unfold symH; simp only; rw [hqm]; simp)
        rw [e1.out]
        have hn0 : ¬ n = 0 := by omega
        have htm : v.tmod n = v % n := Int.tmod_eq_emod_of_nonneg (by omega)
        clear hqm
        unfold SyV
        go_enter Try.func16, Try.ntmps16
        go_wp2_with fail
        refine AnyE.begin2 (S := fun W => W.cell? ⟨w.heap.size, 1, none⟩ = some (.int .i64 v) ∧ W.cell? ⟨w.heap.size, 2, none⟩ = some (.int .i64 k) ∧ W.cell? ⟨b, 1, none⟩ = some (.int .i64 n)) (by kernel_rfl) ⟨by go_simp, by go_simp, by go_simp⟩ (fun hS => ?_)
        refine AnyE.take (i := 0) (oi := ⟨some 10, _, _, _, _, _⟩) (v := .pointer (some ⟨w.heap.size, 1, none⟩)) rfl (by kernel_rfl) (by kernel_rfl) (by kernel_rfl) (by kernel_rfl) (fun _ _ _ h => h) (Or.inl ⟨by rfl, fun W _ => by go_simp⟩) hS ?_
        try simp only [Act.put, List.setIfInBounds_toArray, List.set_cons_zero, List.set_cons_succ]
        refine AnyE.take (i := 1) (oi := ⟨some 11, _, _, _, _, _⟩) (v := .int .i64 v) rfl (by kernel_rfl) (by kernel_rfl) (by kernel_rfl) (by kernel_rfl) (fun _ _ _ h => h) (Or.inl ⟨by rfl, fun W hW => by obtain ⟨a1, a2, a3⟩ := hW; go_simp⟩) hS ?_
        try simp only [Act.put, List.setIfInBounds_toArray, List.set_cons_zero, List.set_cons_succ]
        refine AnyE.take (i := 2) (oi := ⟨some 12, _, _, _, _, _⟩) (v := .int .i64 v) rfl (by kernel_rfl) (by kernel_rfl) (by kernel_rfl) (by kernel_rfl) (fun _ _ _ h => h) (Or.inl ⟨by rfl, fun W _ => by go_simp⟩) hS ?_
        try simp only [Act.put, List.setIfInBounds_toArray, List.set_cons_zero, List.set_cons_succ]
        refine AnyE.take (i := 3) (oi := ⟨some 13, _, _, _, _, _⟩) (v := .pointer (some ⟨b, 0, none⟩)) rfl (by kernel_rfl) (by kernel_rfl) (by kernel_rfl) (by kernel_rfl) (fun _ _ _ h => h) (Or.inl ⟨by rfl, fun W _ => by go_simp⟩) hS ?_
        try simp only [Act.put, List.setIfInBounds_toArray, List.set_cons_zero, List.set_cons_succ]
        refine AnyE.take (i := 4) (oi := ⟨some 14, _, _, _, _, _⟩) (v := .pointer (some ⟨b, 0, none⟩)) rfl (by kernel_rfl) (by kernel_rfl) (by kernel_rfl) (by kernel_rfl) (fun _ _ _ h => h) (Or.inl ⟨by rfl, fun W _ => by go_simp⟩) hS ?_
        try simp only [Act.put, List.setIfInBounds_toArray, List.set_cons_zero, List.set_cons_succ]
        refine AnyE.take (i := 5) (oi := ⟨some 15, _, _, _, _, _⟩) (v := .pointer (some ⟨b, 1, none⟩)) rfl (by kernel_rfl) (by kernel_rfl) (by kernel_rfl) (by kernel_rfl) (fun _ _ _ h => h) (Or.inl ⟨by rfl, fun W _ => by go_simp⟩) hS ?_
        try simp only [Act.put, List.setIfInBounds_toArray, List.set_cons_zero, List.set_cons_succ]
        refine AnyE.take (i := 6) (oi := ⟨some 16, _, _, _, _, _⟩) (v := .int .i64 n) rfl (by kernel_rfl) (by kernel_rfl) (by kernel_rfl) (by kernel_rfl) (fun _ _ _ h => h) (Or.inl ⟨by rfl, fun W hW => by obtain ⟨a1, a2, a3⟩ := hW; go_simp⟩) hS ?_
        try simp only [Act.put, List.setIfInBounds_toArray, List.set_cons_zero, List.set_cons_succ]
        refine AnyE.take (i := 7) (oi := ⟨some 17, _, _, _, _, _⟩) (v := .int .i64 (v % n)) rfl (by kernel_rfl) (by kernel_rfl) (by kernel_rfl) (by kernel_rfl) (fun _ _ _ h => h) (Or.inl ⟨by rfl, fun W _ => by go_simp⟩) hS ?_
        try simp only [Act.put, List.setIfInBounds_toArray, List.set_cons_zero, List.set_cons_succ]
        refine AnyE.take (i := 8) (oi := ⟨some 18, _, _, _, _, _⟩) (v := .pointer (some ⟨w.heap.size, 2, none⟩)) rfl (by kernel_rfl) (by kernel_rfl) (by kernel_rfl) (by kernel_rfl) (fun _ _ _ h => h) (Or.inl ⟨by rfl, fun W _ => by go_simp⟩) hS ?_
        try simp only [Act.put, List.setIfInBounds_toArray, List.set_cons_zero, List.set_cons_succ]
        refine AnyE.take (i := 9) (oi := ⟨some 19, _, _, _, _, _⟩) (v := .int .i64 k) rfl (by kernel_rfl) (by kernel_rfl) (by kernel_rfl) (by kernel_rfl) (fun _ _ _ h => h) (Or.inl ⟨by rfl, fun W hW => by obtain ⟨a1, a2, a3⟩ := hW; go_simp⟩) hS ?_
        try simp only [Act.put, List.setIfInBounds_toArray, List.set_cons_zero, List.set_cons_succ]
        refine AnyE.one (i := 10) (o := ⟨some 20, _, _, _, _, _⟩) (by kernel_rfl) rfl (by rfl) (fun K hK => ?_)
        go_simp
        refine (cut_any k _).mono ?_
        rintro e w9 ⟨rfl, rfl⟩
        refine hK.out _ _ (fun _ => hS) ?_
        clear hK K
        try simp only [Act.put, List.setIfInBounds_toArray, List.set_cons_zero, List.set_cons_succ]
        refine AnyE.take (i := 11) (oi := ⟨some 21, _, _, _, _, _⟩) (v := .agg #[.int .i64 1, .int .i64 (v % n), .int .i64 (cutI k), .int .i64 0]) rfl (by kernel_rfl) (by kernel_rfl) (by kernel_rfl) (by kernel_rfl) (fun _ _ _ h => h) (Or.inl ⟨by rfl, fun W _ => by go_simp⟩) hS ?_
        try simp only [Act.put, List.setIfInBounds_toArray, List.set_cons_zero, List.set_cons_succ]
        refine AnyE.one (i := 12) (o := ⟨none, _, _, _, _, _⟩) (by kernel_rfl) rfl (by rfl) (fun K hK => ?_)
        go_simp
        refine hK.out _ _ (fun h => absurd rfl h) ?_
        clear hK K
        try simp only [Act.put, List.setIfInBounds_toArray, List.set_cons_zero, List.set_cons_succ]
        refine AnyE.done (by kernel_rfl) ?_ _
        clear hS
        go_wp2_with fail
        refine bodyPost_ret (v := SyV ⟨1, (v % n), cutI k, 0⟩) (by simp [results, Try.results16, go_sem, SyV]) rfl ?_
        exact ⟨rfl, by go_grown⟩
      · have e1 : Hid (symH n m ⟨1, v, k, q⟩ = ⟨1, 0, cutI k, 0⟩) := Lib.hid (by unfold symH; simp only; rw [hqm]; simp)
        rw [e1.out]
        have hn0 : ¬ n = 0 := by omega
        have hq2 : (0 < v) = False := by simp; omega
        clear hqm
        unfold SyV
        go_enter Try.func16, Try.ntmps16
        go_wp2_with fail
        refine AnyE.begin2 (S := fun W => W.cell? ⟨w.heap.size, 1, none⟩ = some (.int .i64 v) ∧ W.cell? ⟨w.heap.size, 2, none⟩ = some (.int .i64 k) ∧ W.cell? ⟨b, 1, none⟩ = some (.int .i64 n)) (by kernel_rfl) ⟨by go_simp, by go_simp, by go_simp⟩ (fun hS => ?_)
        refine AnyE.take (i := 0) (oi := ⟨some 10, _, _, _, _, _⟩) (v := .pointer (some ⟨w.heap.size, 1, none⟩)) rfl (by kernel_rfl) (by kernel_rfl) (by kernel_rfl) (by kernel_rfl) (fun _ _ _ h => h) (Or.inl ⟨by rfl, fun W _ => by go_simp⟩) hS ?_
        try simp only [Act.put, List.setIfInBounds_toArray, List.set_cons_zero, List.set_cons_succ]
        refine AnyE.take (i := 1) (oi := ⟨some 11, _, _, _, _, _⟩) (v := .int .i64 v) rfl (by kernel_rfl) (by kernel_rfl) (by kernel_rfl) (by kernel_rfl) (fun _ _ _ h => h) (Or.inl ⟨by rfl, fun W hW => by obtain ⟨a1, a2, a3⟩ := hW; go_simp⟩) hS ?_
        try simp only [Act.put, List.setIfInBounds_toArray, List.set_cons_zero, List.set_cons_succ]
        refine AnyE.take (i := 2) (oi := ⟨some 12, _, _, _, _, _⟩) (v := .int .i64 0) rfl (by kernel_rfl) (by kernel_rfl) (by kernel_rfl) (by kernel_rfl) (fun _ _ _ h => h) (Or.inl ⟨by rfl, fun W _ => by go_simp⟩) hS ?_
        try simp only [Act.put, List.setIfInBounds_toArray, List.set_cons_zero, List.set_cons_succ]
        refine AnyE.take (i := 3) (oi := ⟨some 13, _, _, _, _, _⟩) (v := .pointer (some ⟨b, 0, none⟩)) rfl (by kernel_rfl) (by kernel_rfl) (by kernel_rfl) (by kernel_rfl) (fun _ _ _ h => h) (Or.inl ⟨by rfl, fun W _ => by go_simp⟩) hS ?_
        try simp only [Act.put, List.setIfInBounds_toArray, List.set_cons_zero, List.set_cons_succ]
        refine AnyE.take (i := 4) (oi := ⟨some 14, _, _, _, _, _⟩) (v := .pointer (some ⟨b, 0, none⟩)) rfl (by kernel_rfl) (by kernel_rfl) (by kernel_rfl) (by kernel_rfl) (fun _ _ _ h => h) (Or.inl ⟨by rfl, fun W _ => by go_simp⟩) hS ?_
        try simp only [Act.put, List.setIfInBounds_toArray, List.set_cons_zero, List.set_cons_succ]
        refine AnyE.take (i := 5) (oi := ⟨some 15, _, _, _, _, _⟩) (v := .pointer (some ⟨b, 1, none⟩)) rfl (by kernel_rfl) (by kernel_rfl) (by kernel_rfl) (by kernel_rfl) (fun _ _ _ h => h) (Or.inl ⟨by rfl, fun W _ => by go_simp⟩) hS ?_
        try simp only [Act.put, List.setIfInBounds_toArray, List.set_cons_zero, List.set_cons_succ]
        refine AnyE.take (i := 6) (oi := ⟨some 16, _, _, _, _, _⟩) (v := .int .i64 n) rfl (by kernel_rfl) (by kernel_rfl) (by kernel_rfl) (by kernel_rfl) (fun _ _ _ h => h) (Or.inl ⟨by rfl, fun W hW => by obtain ⟨a1, a2, a3⟩ := hW; go_simp⟩) hS ?_
        try simp only [Act.put, List.setIfInBounds_toArray, List.set_cons_zero, List.set_cons_succ]
        refine AnyE.take (i := 7) (oi := ⟨some 17, _, _, _, _, _⟩) (v := .int .i64 0) rfl (by kernel_rfl) (by kernel_rfl) (by kernel_rfl) (by kernel_rfl) (fun _ _ _ h => h) (Or.inl ⟨by rfl, fun W _ => by go_simp⟩) hS ?_
        try simp only [Act.put, List.setIfInBounds_toArray, List.set_cons_zero, List.set_cons_succ]
        refine AnyE.take (i := 8) (oi := ⟨some 18, _, _, _, _, _⟩) (v := .pointer (some ⟨w.heap.size, 2, none⟩)) rfl (by kernel_rfl) (by kernel_rfl) (by kernel_rfl) (by kernel_rfl) (fun _ _ _ h => h) (Or.inl ⟨by rfl, fun W _ => by go_simp⟩) hS ?_
        try simp only [Act.put, List.setIfInBounds_toArray, List.set_cons_zero, List.set_cons_succ]
        refine AnyE.take (i := 9) (oi := ⟨some 19, _, _, _, _, _⟩) (v := .int .i64 k) rfl (by kernel_rfl) (by kernel_rfl) (by kernel_rfl) (by kernel_rfl) (fun _ _ _ h => h) (Or.inl ⟨by rfl, fun W hW => by obtain ⟨a1, a2, a3⟩ := hW; go_simp⟩) hS ?_
        try simp only [Act.put, List.setIfInBounds_toArray, List.set_cons_zero, List.set_cons_succ]
        refine AnyE.one (i := 10) (o := ⟨some 20, _, _, _, _, _⟩) (by kernel_rfl) rfl (by rfl) (fun K hK => ?_)
        go_simp
        refine (cut_any k _).mono ?_
        rintro e w9 ⟨rfl, rfl⟩
        refine hK.out _ _ (fun _ => hS) ?_
        clear hK K
        try simp only [Act.put, List.setIfInBounds_toArray, List.set_cons_zero, List.set_cons_succ]
        refine AnyE.take (i := 11) (oi := ⟨some 21, _, _, _, _, _⟩) (v := .agg #[.int .i64 1, .int .i64 0, .int .i64 (cutI k), .int .i64 0]) rfl (by kernel_rfl) (by kernel_rfl) (by kernel_rfl) (by kernel_rfl) (fun _ _ _ h => h) (Or.inl ⟨by rfl, fun W _ => by go_simp⟩) hS ?_
        try simp only [Act.put, List.setIfInBounds_toArray, List.set_cons_zero, List.set_cons_succ]
        refine AnyE.one (i := 12) (o := ⟨none, _, _, _, _, _⟩) (by kernel_rfl) rfl (by rfl) (fun K hK => ?_)
        go_simp
        refine hK.out _ _ (fun h => absurd rfl h) ?_
        clear hK K
        try simp only [Act.put, List.setIfInBounds_toArray, List.set_cons_zero, List.set_cons_succ]
        refine AnyE.done (by kernel_rfl) ?_ _
        clear hS
        go_wp2_with fail
        refine bodyPost_ret (v := SyV ⟨1, 0, cutI k, 0⟩) (by simp [results, Try.results16, go_sem, SyV]) rfl ?_
        exact ⟨rfl, by go_grown⟩
    · have t3 : (a == 1) = false := by simpa using h3
      have e1 : Hid (symH n m ⟨a, v, k, q⟩ = sy0) := Lib.hid (by unfold symH; simp only; rw [if_neg h3, if_neg h2])
      rw [e1.out]
      unfold SyV
      go_enter Try.func16, Try.ntmps16
      go_wp2
      refine bodyPost_ret (v := SyV sy0) (by simp [results, Try.results16, go_sem, SyV, sy0]) rfl ?_
      exact ⟨rfl, by go_grown⟩

end Go.Proofs.Ytejnjaikalckiaa
