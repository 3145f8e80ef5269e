/- The contract of heap.Heap.Load. -/
import Derived.Test.YtejnjaikalckiaaHRe
namespace Go.Proofs.Ytejnjaikalckiaa
open Go.RowKit

theorem wantE_zero {s : Sy} {k : Int} (h : wantE s k = 0) : s.kind = k := by
  unfold wantE at h
  by_cases h1 : s.kind = k
  · exact h1
  · rw [if_neg h1] at h
    split at h <;> omega
theorem reach_ok {H : Hp} {p i : Sy} {wr : Bool} (h : reachE H p i wr = 0) : p.kind = 2 ∧ i.kind = 1 ∧ ∃ k : Nat, p.b = k ∧ H.chunks[k]? = some (ckAt H p.b) ∧ (ckAt H p.b).live = true ∧ reachC H (ckAt H p.b) i wr = 0 := by
  by_cases hor : orE (wantE p 2) (wantE i 1) = 0
  · by_cases hc : chunkE H p = 0
    · obtain ⟨hk, k, hkn, _, hck, hl⟩ := chunkE_ok hc
      rw [reachE_c hor hc] at h
      exact ⟨hk, wantE_zero (orE_zero.1 hor).2, k, hkn, hck, hl, h⟩
    · rw [reachE_chunk hor hc] at h
      exact absurd h hc
  · rw [reachE_or hor] at h
    exact absurd h hor
theorem reachC_ok {H : Hp} {c : Ck} {i : Sy} {wr : Bool} (h : reachC H c i wr = 0) : ¬ (wr = true ∧ (c.o = 3 ∨ c.o = 8)) ∧ ¬ (c.o = 6 ∧ c.held = false) ∧ insideB H c i = true ∧ ¬ (c.o = 6 ∧ c.arr = false ∧ i.k = c.at') := by
  unfold reachC at h
  split at h
  · cases h
  · split at h
    · cases h
    · split at h
      · cases h
      · rename_i h3
        split at h
        · cases h
        · exact ⟨by assumption, by assumption, by simpa using h3, by assumption⟩
theorem inside_cell {H : Hp} {c : Ck} {i : Sy} (h : insideB H c i = true) (ha : c.arr = false) : i.v = 0 ∧ ∃ j : Nat, i.k = j ∧ j < c.cells.length ∧ c.cells[j]? = some (c.cells.getD j sy0) := by
  unfold insideB at h
  rw [if_neg (by rw [ha]; decide)] at h
  simp only [Bool.and_eq_true, decide_eq_true_eq] at h
  refine ⟨h.1, i.k.toNat, by omega, by omega, ?_⟩
  rw [List.getD_eq_getElem?_getD, List.getElem?_eq_getElem (by omega)]
  rfl

theorem keepS4 (s : Sy) {W : World} {b o g : Nat} {v : Value} (h : W.cell? ⟨b, o, none⟩ = some v) (hne : g ≠ b) : ((((W.setCell ⟨g, 0, none⟩ (.int .i64 s.kind)).setCell ⟨g, 1, none⟩ (.int .i64 s.v)).setCell ⟨g, 2, none⟩ (.int .i64 s.k)).setCell ⟨g, 3, none⟩ (.int .i64 s.b)).cell? ⟨b, o, none⟩ = some v := keepS (keepS (keepS (keepS h hne) hne) hne) hne
theorem lo1 {H : Hp} {p i : Sy} (h : reachE H p i false ≠ 0) : loadE H p i = reachE H p i false ∧ loadY H p i = sy0 ∧ loadH H p i = H := by unfold loadE loadY loadH; rw [if_pos h, if_pos h, if_pos h]; exact ⟨rfl, rfl, rfl⟩
theorem lo2 {H : Hp} {p i : Sy} (h : reachE H p i false = 0) (ha : (ckAt H p.b).arr = true) : loadE H p i = freshE H ∧ loadY H p i = freshY H ∧ loadH H p i = freshH H := by
  have h' : ¬ reachE H p i false ≠ 0 := by simpa using h
  unfold loadE loadY loadH; rw [if_neg h', if_neg h', if_neg h', if_pos ha, if_pos ha, if_pos ha]; exact ⟨rfl, rfl, rfl⟩
theorem lo3 {H : Hp} {p i : Sy} (h : reachE H p i false = 0) (ha : ¬ (ckAt H p.b).arr = true) (hk : (cellAt H p i).kind = 0) : loadE H p i = 41 ∧ loadY H p i = sy0 ∧ loadH H p i = H := by
  have h' : ¬ reachE H p i false ≠ 0 := by simpa using h
  unfold loadE loadY loadH; rw [if_neg h', if_neg h', if_neg h', if_neg ha, if_neg ha, if_neg ha, if_pos hk, if_pos hk]; exact ⟨rfl, rfl, rfl⟩
theorem lo4 {H : Hp} {p i : Sy} (h : reachE H p i false = 0) (ha : ¬ (ckAt H p.b).arr = true) (hk : ¬ (cellAt H p i).kind = 0) : loadE H p i = 0 ∧ loadY H p i = cellAt H p i ∧ loadH H p i = H := by
  have h' : ¬ reachE H p i false ≠ 0 := by simpa using h
  unfold loadE loadY loadH; rw [if_neg h', if_neg h', if_neg h', if_neg ha, if_neg ha, if_neg ha, if_neg hk, if_neg hk]; exact ⟨rfl, rfl, rfl⟩
theorem frEnd {w0 : World} {R : Thing} {b : Nat} {vc : Value} {vs : List Value} {H H1 H2 : Hp} {olds : List (Value × Nat)} {n1 n2 : Int} {s1 s2 : Sy} {vf' : Value} {w' : World} (h : n1 = n2 ∧ s1 = s2 ∧ H1 = H2) (hs : HS pT w0 w' R b vc vf' vs H2 olds) : FrPost w0 R b vc vs H H1 olds (.tuple #[SyV s1, .int .i64 n1]) (.returned (.tuple #[SyV s2, .int .i64 n2])) w' := by
  obtain ⟨rfl, rfl, rfl⟩ := h
  exact ⟨vf', rfl, hs⟩
theorem FrPost.low {w0 : World} {R R' : Thing} {b : Nat} {vc : Value} {vs : List Value} {H H' : Hp} {olds : List (Value × Nat)} {v v' : Value} {e : Ending} {w' : World} (h : FrPost w0 (allT [R, R']) b vc vs H H' olds v e w') : ∃ vf', e = .returned v ∧ HS pT w0 w' R b vc vf' vs H' olds := by
  obtain ⟨vf', h1, h2⟩ := h
  exact ⟨vf', h1, h2.front⟩

set_option maxRecDepth 100000 in
set_option maxHeartbeats 16000000 in
theorem load_any {w0 w : World} {R : Thing} {b : Nat} {vc vf : Value} {vs : List Value} {H : Hp} {olds : List (Value × Nat)} (h : HS pT w0 w R b vc vf vs H olds) (hg : ∀ c ∈ H.chunks, Near c.size.k) (hl : H.facts.length ≤ 768) (hv : 0 ≤ H.vars ∧ H.vars ≤ 96) (p i : Sy) (hi : Near i.k) :
    Calls Try.prog 24 #[.pointer (some ⟨b, 0, none⟩), SyV p, SyV i] w (FrPost w0 R b vc vs H (loadH H p i) olds (.tuple #[SyV (loadY H p i), .int .i64 (loadE H p i)])) := by
  have h1 := (HSg.quiet h (((Below.refl w.heap.size w).alloc (Nat.le_refl _) (.cells #[.int .i64 p.kind, .int .i64 p.v, .int .i64 p.k, .int .i64 p.b] 36)).alloc (by simp) (.cells #[.int .i64 i.kind, .int .i64 i.v, .int .i64 i.k, .int .i64 i.b] 36))).box [.int .i64 0, .int .i64 0, .int .i64 0, .int .i64 0] 36
  rw [show ((w.alloc (.cells #[.int .i64 p.kind, .int .i64 p.v, .int .i64 p.k, .int .i64 p.b] 36)).alloc (.cells #[.int .i64 i.kind, .int .i64 i.v, .int .i64 i.k, .int .i64 i.b] 36)).heap.size = w.heap.size + 1 + 1 by simp] at h1
  have H1 := Lib.hid h1
  have HH := Lib.hid h
  have HRE := Lib.hid (reach_any h1 hg p i hi false)
  clear h h1 hg
  unfold SyV at HRE
  go_enter Try.func24, Try.ntmps24
  unfold SyV
  go_wp2_with fail
  ((with_reducible refine HRE.out.mono ?_); rintro e w2 ⟨rfl, hb⟩)
  have ki := (((Blk.new (w.alloc (.cells #[.int .i64 p.kind, .int .i64 p.v, .int .i64 p.k, .int .i64 p.b] 36)) [.int .i64 i.kind, .int .i64 i.v, .int .i64 i.k, .int .i64 i.b] 36).alloc (.cells #[.int .i64 0, .int .i64 0, .int .i64 0, .int .i64 0] 36)).stays hb)
  rw [show (w.alloc (.cells #[.int .i64 p.kind, .int .i64 p.v, .int .i64 p.k, .int .i64 p.b] 36)).heap.size = w.heap.size + 1 by simp] at ki
  obtain ⟨i0, i1, i2, i3, _, _⟩ := ki.four
  have H2 := Lib.hid (H1.out.quiet hb)
  obtain ⟨z0, z1, z2, z3, zz, zl⟩ := H2.out.local.1.four
  have HZ := Lib.hid H2.out.local.1
  have HB2 := Lib.hid (((((Below.refl w.heap.size w).alloc (Nat.le_refl _) _).alloc (by simp) _).alloc (by simp; omega) _).trans (hb.mono (by simp; omega)))
  clear hb H1 HRE ki i0 i1 i3
  by_cases hre : reachE H p i false = 0
  case neg =>
    have tn : (reachE H p i false != 0) = true := by simpa using hre
    have HN := Lib.hid (lo1 hre)
    rw [if_neg hre]
    clear hre
    generalize reachE H p i false = cd at *
    go_wp2_with fail
    refine ret_box (v := .tuple #[SyV sy0, .int .i64 cd]) ((((HZ.out.put 0 (.int .i64 0)).put 1 (.int .i64 0)).put 2 (.int .i64 0)).put 3 (.int .i64 0)) (fun W' hb => ?_) rfl ?_
    · obtain ⟨q0, q1, q2, q3, _⟩ := hb.four
      simp [results, Try.results24, go_sem, SyV, sy0, q0, q1, q2, q3]
    · exact frEnd HN.out ((((H2.out.localPut 0 (.int .i64 0)).localPut 1 (.int .i64 0)).localPut 2 (.int .i64 0)).localPut 3 (.int .i64 0)).front
  case pos =>
    obtain ⟨_, _, kn, hkn, hck, _, hrc⟩ := reach_ok hre
    obtain ⟨_, _, hin, _⟩ := reachC_ok hrc
    rw [hre, if_pos rfl]
    have HRE := Lib.hid hre
    obtain ⟨c, hc⟩ : ∃ c, ckAt H p.b = c := ⟨_, rfl⟩
    have HC := Lib.hid hc
    rw [hc] at hck hin
    have hpn : p.b.toNat = kn := by omega
    rw [hpn]
    obtain ⟨gk, capk, vk, hvc, _, hcm, hgl, hgb, hvk, hcell, hfz⟩ := H2.out.chunk hck
    have q5 := hcell 5 (by omega)
    have q10 := hcell 10 (by omega)
    change w2.cell? ⟨gk, kn * 11 + 5, none⟩ = some (.bool c.arr) at q5
    change w2.cell? ⟨gk, kn * 11 + 10, none⟩ = some vk at q10
    clear hre hrc hcell hfz hpn hc
    cases hvc
    unfold ckPtr
    simp only
    by_cases ha : c.arr = true
    · have HA := Lib.hid (lo2 HRE.out (by rw [HC.out]; exact ha))
      rw [ha] at q5
      have HF := Lib.hid (fresh_any H2.out hl hv)
      clear ha q10 hin
      go_wp2_with fail
      ((with_reducible refine HF.out.mono ?_); rintro e w3 ⟨vf', rfl, h3⟩)
      obtain ⟨z0, z1, z2, z3, zz, zl⟩ := h3.local.1.four
      have H3 := Lib.hid h3
      clear HF h3
      unfold SyV
      go_wp2_with fail
      have h5 := (((H3.out.localPut 0 (.int .i64 (freshY H).kind)).localPut 1 (.int .i64 (freshY H).v)).localPut 2 (.int .i64 (freshY H).k)).localPut 3 (.int .i64 (freshY H).b)
      refine ret_box (v := .tuple #[SyV (freshY H), .int .i64 (freshE H)]) h5.local.1 (fun W' hb => ?_) rfl ?_
      · obtain ⟨q0, q1, q2, q3, _⟩ := hb.four
        simp [results, Try.results24, go_sem, SyV, q0, q1, q2, q3]
      · exact frEnd HA.out h5.front
    · have ha2 : c.arr = false := by simpa using ha
      have HA := Lib.hid ha
      rw [ha2] at q5
      obtain ⟨_, j, hj, hjl, hcj⟩ := inside_cell hin ha2
      obtain ⟨gv, capv, rfl, hvl, hvm, hgvl, hgvb, hs, _⟩ := H2.out.cell hck hvk hcj
      have hcs : cellAt H p i = c.cells.getD j sy0 := by unfold cellAt; rw [HC.out, hj, Int.toNat_natCast]
      obtain ⟨s, hs2⟩ : ∃ s, c.cells.getD j sy0 = s := ⟨_, rfl⟩
      rw [hs2] at hs hcs
      have s0 := hs 0 (by omega)
      have s1 := hs 1 (by omega)
      have s2 := hs 2 (by omega)
      have s3 := hs 3 (by omega)
      change w2.cell? ⟨gv, j * 4, none⟩ = some (.int .i64 s.kind) at s0
      change w2.cell? ⟨gv, j * 4 + 1, none⟩ = some (.int .i64 s.v) at s1
      change w2.cell? ⟨gv, j * 4 + 2, none⟩ = some (.int .i64 s.k) at s2
      change w2.cell? ⟨gv, j * 4 + 3, none⟩ = some (.int .i64 s.b) at s3
      rw [hj] at i2
      have hjl2 : (j : Int) < (c.cells.length : Int) := by omega
      have hne : w.heap.size + 1 + 1 ≠ gv := H2.out.farCell hck hvk rfl
      have hne2 : w.heap.size + 1 + 1 ≠ gk := H2.out.farChunk rfl
      have i2' : w2.cell? ⟨w.heap.size + 1, 2, none⟩ = some (.int .i64 (j : Int)) := i2
      unfold maxLen at hvm
      clear ha hin hck hvk hcj hs hs2 hj
      by_cases hs0 : s.kind = 0
      · have ts : (s.kind == 0) = true := by simpa using hs0
        have HS0 := Lib.hid (lo3 HRE.out (by rw [HC.out]; exact HA.out) (by rw [hcs]; exact hs0))
        clear hs0
        go_wp2_with fail
        go_quiet (fail)
        go_wp2_with fail
        refine ret_box (v := .tuple #[SyV sy0, .int .i64 41]) (((((HZ.out.drewN _).put 0 (.int .i64 0)).put 1 (.int .i64 0)).put 2 (.int .i64 0)).put 3 (.int .i64 0)) (fun W' hb => ?_) rfl ?_
        · obtain ⟨q0, q1, q2, q3, _⟩ := hb.four
          simp [results, Try.results24, go_sem, SyV, sy0, q0, q1, q2, q3]
        · exact frEnd HS0.out (((((H2.out.quiet (below_drewN (Below.refl _ _) _)).localPut 0 (.int .i64 0)).localPut 1 (.int .i64 0)).localPut 2 (.int .i64 0)).localPut 3 (.int .i64 0)).front
      · have ts : (s.kind == 0) = false := by simpa using hs0
        have HS0 := Lib.hid (lo4 HRE.out (by rw [HC.out]; exact HA.out) (by rw [hcs]; exact hs0))
        rw [hcs] at HS0
        clear hs0
        go_wp2_with fail
        go_quiet (fail)
        go_wp2_with fail
        refine wp_region_held_drew (S := fun W => W.cell? ⟨gk, kn * 11 + 10, none⟩ = some (.slice (some ⟨gv, 0, none⟩) c.cells.length capv) ∧ W.cell? ⟨w.heap.size + 1, 2, none⟩ = some (.int .i64 (j : Int)) ∧ W.cell? ⟨gv, j * 4, none⟩ = some (.int .i64 s.kind) ∧ W.cell? ⟨gv, j * 4 + 1, none⟩ = some (.int .i64 s.v) ∧ W.cell? ⟨gv, j * 4 + 2, none⟩ = some (.int .i64 s.k) ∧ W.cell? ⟨gv, j * 4 + 3, none⟩ = some (.int .i64 s.b)) (by kernel_rfl) ⟨by go_simp, by go_simp, by go_simp, by go_simp, by go_simp, by go_simp⟩ (fun hS => ?_)
        refine wpAnyH_take (i := 0) (oi := ⟨some 43, _, _, _, _, _⟩) (v := .pointer (some ⟨gk, kn * 11, none⟩)) rfl (by kernel_rfl) (by kernel_rfl) (by kernel_rfl) (fun _ _ _ h => h) (Or.inl ⟨by rfl, fun W _ => by go_simp⟩) hS ?_
        try simp only [Act.put, List.setIfInBounds_toArray, List.set_cons_zero, List.set_cons_succ]
        refine wpAnyH_take (i := 1) (oi := ⟨some 44, _, _, _, _, _⟩) (v := .pointer (some ⟨gk, kn * 11, none⟩)) rfl (by kernel_rfl) (by kernel_rfl) (by kernel_rfl) (fun _ _ _ h => h) (Or.inl ⟨by rfl, fun W _ => by go_simp⟩) hS ?_
        try simp only [Act.put, List.setIfInBounds_toArray, List.set_cons_zero, List.set_cons_succ]
        refine wpAnyH_take (i := 2) (oi := ⟨some 45, _, _, _, _, _⟩) (v := .pointer (some ⟨gk, kn * 11 + 10, none⟩)) rfl (by kernel_rfl) (by kernel_rfl) (by kernel_rfl) (fun _ _ _ h => h) (Or.inl ⟨by rfl, fun W _ => by go_simp⟩) hS ?_
        try simp only [Act.put, List.setIfInBounds_toArray, List.set_cons_zero, List.set_cons_succ]
        refine wpAnyH_take (i := 3) (oi := ⟨some 46, _, _, _, _, _⟩) (v := .slice (some ⟨gv, 0, none⟩) c.cells.length capv) rfl (by kernel_rfl) (by kernel_rfl) (by kernel_rfl) (fun _ _ _ h => h) (Or.inl ⟨by rfl, fun W hW => by obtain ⟨ha0, ha1, ha2, ha3, ha4, ha5⟩ := hW; go_simp⟩) hS ?_
        try simp only [Act.put, List.setIfInBounds_toArray, List.set_cons_zero, List.set_cons_succ]
        refine wpAnyH_take (i := 4) (oi := ⟨some 47, _, _, _, _, _⟩) (v := .pointer (some ⟨w.heap.size + 1, 2, none⟩)) rfl (by kernel_rfl) (by kernel_rfl) (by kernel_rfl) (fun _ _ _ h => h) (Or.inl ⟨by rfl, fun W _ => by go_simp⟩) hS ?_
        try simp only [Act.put, List.setIfInBounds_toArray, List.set_cons_zero, List.set_cons_succ]
        refine wpAnyH_take (i := 5) (oi := ⟨some 48, _, _, _, _, _⟩) (v := .int .i64 (j : Int)) rfl (by kernel_rfl) (by kernel_rfl) (by kernel_rfl) (fun _ _ _ h => h) (Or.inl ⟨by rfl, fun W hW => by obtain ⟨ha0, ha1, ha2, ha3, ha4, ha5⟩ := hW; go_simp⟩) hS ?_
        try simp only [Act.put, List.setIfInBounds_toArray, List.set_cons_zero, List.set_cons_succ]
        refine wpAnyH_take (i := 6) (oi := ⟨some 49, _, _, _, _, _⟩) (v := .pointer (some ⟨gv, j * 4, none⟩)) rfl (by kernel_rfl) (by kernel_rfl) (by kernel_rfl) (fun _ _ _ h => h) (Or.inl ⟨by rfl, fun W _ => by go_simp⟩) hS ?_
        try simp only [Act.put, List.setIfInBounds_toArray, List.set_cons_zero, List.set_cons_succ]
        refine wpAnyH_take (i := 7) (oi := ⟨some 50, _, _, _, _, _⟩) (v := .agg #[.int .i64 s.kind, .int .i64 s.v, .int .i64 s.k, .int .i64 s.b]) rfl (by kernel_rfl) (by kernel_rfl) (by kernel_rfl) (fun _ _ _ h => h) (Or.inl ⟨by rfl, fun W hW => by obtain ⟨ha0, ha1, ha2, ha3, ha4, ha5⟩ := hW; go_simp⟩) hS ?_
        try simp only [Act.put, List.setIfInBounds_toArray, List.set_cons_zero, List.set_cons_succ]
        refine AnyH.only (i := 8) (o := ⟨none, _, _, _, _, _⟩) (by kernel_rfl) rfl (by rfl) (fun K hK => ?_)
        go_simp
        have hS := (show _ ∧ _ ∧ _ ∧ _ ∧ _ ∧ _ from ⟨keepS4 s hS.1 hne2, keepS4 s hS.2.1 (show w.heap.size + 1 + 1 ≠ w.heap.size + 1 by omega), keepS4 s hS.2.2.1 hne, keepS4 s hS.2.2.2.1 hne, keepS4 s hS.2.2.2.2.1 hne, keepS4 s hS.2.2.2.2.2 hne⟩)
        refine hK.out _ _ hS ?_
        clear hK K
        try simp only [Act.put, List.setIfInBounds_toArray, List.set_cons_zero, List.set_cons_succ]
        refine wpAnyH_take (i := 9) (oi := ⟨some 7, _, _, _, _, _⟩) (v := .int .i64 0) rfl (by kernel_rfl) (by kernel_rfl) (by kernel_rfl) (fun _ _ _ h => h) (Or.inl ⟨by rfl, fun W _ => by go_simp⟩) hS ?_
        try simp only [Act.put, List.setIfInBounds_toArray, List.set_cons_zero, List.set_cons_succ]
        refine wpAnyH_done (by kernel_rfl) ?_ _
        clear hS
        go_wp2_with fail
        refine ret_box (v := .tuple #[SyV s, .int .i64 0]) (((((HZ.out.drewN _).put 0 (.int .i64 s.kind)).put 1 (.int .i64 s.v)).put 2 (.int .i64 s.k)).put 3 (.int .i64 s.b)) (fun W' hb => ?_) rfl ?_
        · obtain ⟨q0, q1, q2, q3, _⟩ := hb.four
          simp [results, Try.results24, go_sem, SyV, q0, q1, q2, q3]
        · exact frEnd HS0.out (((((H2.out.quiet (below_drewN (Below.refl _ _) _)).localPut 0 (.int .i64 s.kind)).localPut 1 (.int .i64 s.v)).localPut 2 (.int .i64 s.k)).localPut 3 (.int .i64 s.b)).front

end Go.Proofs.Ytejnjaikalckiaa
