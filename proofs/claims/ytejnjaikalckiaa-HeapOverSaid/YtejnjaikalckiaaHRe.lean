/- The contract of heap.Heap.reach. -/
import Derived.Test.YtejnjaikalckiaaHIn
namespace Go.Proofs.Ytejnjaikalckiaa
open Go.RowKit

theorem orE_zero {a b : Int} : orE a b = 0 ↔ a = 0 ∧ b = 0 := by
  unfold orE
  by_cases h : a = 0
  · rw [if_neg (by simpa using h)]
    exact ⟨fun h' => ⟨h, h'⟩, fun h' => h'.2⟩
  · rw [if_pos (by simpa using h)]
    exact ⟨fun h' => absurd h' h, fun h' => absurd h'.1 h⟩
theorem reachE_or {H : Hp} {p i : Sy} {wr : Bool} (h : orE (wantE p 2) (wantE i 1) ≠ 0) : reachE H p i wr = orE (wantE p 2) (wantE i 1) := by
  unfold reachE orE at *
  by_cases h1 : wantE p 2 = 0
  · rw [if_neg (by simpa using h1)] at h
    rw [if_neg (by simpa using h1), if_pos h, if_neg (by simpa using h1)]
  · rw [if_pos h1, if_pos h1]
theorem reachE_chunk {H : Hp} {p i : Sy} {wr : Bool} (h : orE (wantE p 2) (wantE i 1) = 0) (hc : chunkE H p ≠ 0) : reachE H p i wr = chunkE H p := by
  obtain ⟨h1, h2⟩ := orE_zero.1 h
  unfold reachE
  rw [if_neg (by simpa using h1), if_neg (by simpa using h2), if_pos hc]
/- What is asked of a chunk that is there. -/
def reachC (H : Hp) (c : Ck) (i : Sy) (wr : Bool) : Int :=
  if wr = true ∧ (c.o = 3 ∨ c.o = 8) then 44 else if c.o = 6 ∧ c.held = false then 45 else if insideB H c i = false then 42 else if c.o = 6 ∧ c.arr = false ∧ i.k = c.at' then 45 else 0
theorem reachE_c {H : Hp} {p i : Sy} {wr : Bool} (h : orE (wantE p 2) (wantE i 1) = 0) (hc : chunkE H p = 0) : reachE H p i wr = reachC H (ckAt H p.b) i wr := by
  obtain ⟨h1, h2⟩ := orE_zero.1 h
  unfold reachE reachC
  rw [if_neg (by simpa using h1), if_neg (by simpa using h2), if_neg (by simpa using hc)]

theorem rc44 {H : Hp} {c : Ck} {i : Sy} {wr : Bool} (h : wr = true ∧ (c.o = 3 ∨ c.o = 8)) : reachC H c i wr = 44 := by unfold reachC; rw [if_pos h]
theorem rc45 {H : Hp} {c : Ck} {i : Sy} {wr : Bool} (n : ¬ (wr = true ∧ (c.o = 3 ∨ c.o = 8))) (h : c.o = 6 ∧ c.held = false) : reachC H c i wr = 45 := by unfold reachC; rw [if_neg n, if_pos h]
theorem rc42 {H : Hp} {c : Ck} {i : Sy} {wr : Bool} (n : ¬ (wr = true ∧ (c.o = 3 ∨ c.o = 8))) (n2 : ¬ (c.o = 6 ∧ c.held = false)) (h : insideB H c i = false) : reachC H c i wr = 42 := by unfold reachC; rw [if_neg n, if_neg n2, if_pos h]
theorem rc45b {H : Hp} {c : Ck} {i : Sy} {wr : Bool} (n : ¬ (wr = true ∧ (c.o = 3 ∨ c.o = 8))) (n2 : ¬ (c.o = 6 ∧ c.held = false)) (n3 : insideB H c i = true) (h : c.o = 6 ∧ c.arr = false ∧ i.k = c.at') : reachC H c i wr = 45 := by unfold reachC; rw [if_neg n, if_neg n2, if_neg (by simpa using n3), if_pos h]
theorem rc0 {H : Hp} {c : Ck} {i : Sy} {wr : Bool} (n : ¬ (wr = true ∧ (c.o = 3 ∨ c.o = 8))) (n2 : ¬ (c.o = 6 ∧ c.held = false)) (n3 : insideB H c i = true) (h : ¬ (c.o = 6 ∧ c.arr = false ∧ i.k = c.at')) : reachC H c i wr = 0 := by unfold reachC; rw [if_neg n, if_neg n2, if_neg (by simpa using n3), if_neg h]

def RePost (vc : Value) (H : Hp) (p i : Sy) (wr : Bool) (w : World) (e : Ending) (w' : World) : Prop :=
  e = .returned (.tuple #[.pointer (if reachE H p i wr = 0 then ckPtr vc p.b.toNat else none), .int .i64 (reachE H p i wr)]) ∧ Below w.heap.size w w'

theorem RePost.no {vc : Value} {H : Hp} {p i : Sy} {wr : Bool} {w w' : World} {cd : Int} (h : reachE H p i wr = cd) (hn : cd ≠ 0) (hb : Below w.heap.size w w') : RePost vc H p i wr w (.returned (.tuple #[.pointer none, .int .i64 cd])) w' := ⟨by rw [h, if_neg hn], hb⟩
theorem RePost.yes {vc : Value} {H : Hp} {p i : Sy} {wr : Bool} {w w' : World} {A : Option Addr} (h : reachE H p i wr = 0) (hA : ckPtr vc p.b.toNat = A) (hb : Below w.heap.size w w') : RePost vc H p i wr w (.returned (.tuple #[.pointer A, .int .i64 0])) w' := ⟨by rw [h, if_pos rfl, hA], hb⟩
set_option maxRecDepth 100000 in
set_option maxHeartbeats 16000000 in
theorem reach_any {w0 w : World} {R : Thing} {b : Nat} {vc vf : Value} {vs : List Value} {H : Hp} {olds : List (Value × Nat)} (h : HS pT w0 w R b vc vf vs H olds) (hg : ∀ c ∈ H.chunks, Near c.size.k) (p i : Sy) (hi : Near i.k) (wr : Bool) :
    Calls Try.prog 51 #[.pointer (some ⟨b, 0, none⟩), SyV p, SyV i, .bool wr] w (RePost vc H p i wr w) := by
  have HW2 : Hid (∀ W, Calls Try.prog 69 #[SyV p, .int .i64 2] W fun e w' => e = .returned (.int .i64 (wantE p 2)) ∧ Below W.heap.size W w') := Lib.hid fun W => wanted_any p 2 W
  have HW1 : Hid (∀ W, Calls Try.prog 69 #[SyV i, .int .i64 1] W fun e w' => e = .returned (.int .i64 (wantE i 1)) ∧ Below W.heap.size W w') := Lib.hid fun W => wanted_any i 1 W
  have HCH := Lib.hid fun (W : World) (hW : Below w.heap.size w W) => chunk_any (HSg.quiet h hW) p
  have HIN := Lib.hid fun (W : World) (hW : Below w.heap.size w W) (kn : Nat) (c : Ck) (hc : H.chunks[kn]? = some c) (A : Option Addr) (hA : ckPtr vc kn = A) => inside_any (HSg.quiet h hW) hc (hg c (List.mem_of_getElem? hc)) i hi hA
  have HCK := Lib.hid fun (k : Nat) (c : Ck) (hc : H.chunks[k]? = some c) => HSg.chunk (k := k) (c := c) h hc
  clear h hg
  unfold SyV at *
  go_enter Try.func51, Try.ntmps51
  go_wp2_with fail
  refine wp_region_held_drew (S := fun W => W.cell? ⟨w.heap.size, 0, none⟩ = some (.int .i64 p.kind) ∧ W.cell? ⟨w.heap.size, 1, none⟩ = some (.int .i64 p.v) ∧ W.cell? ⟨w.heap.size, 2, none⟩ = some (.int .i64 p.k) ∧ W.cell? ⟨w.heap.size, 3, none⟩ = some (.int .i64 p.b) ∧ W.cell? ⟨w.heap.size + 1, 0, none⟩ = some (.int .i64 i.kind) ∧ W.cell? ⟨w.heap.size + 1, 1, none⟩ = some (.int .i64 i.v) ∧ W.cell? ⟨w.heap.size + 1, 2, none⟩ = some (.int .i64 i.k) ∧ W.cell? ⟨w.heap.size + 1, 3, none⟩ = some (.int .i64 i.b) ∧ Below w.heap.size w W) (by kernel_rfl) ⟨by go_simp, by go_simp, by go_simp, by go_simp, by go_simp, by go_simp, by go_simp, by go_simp, (((Below.refl _ _).alloc (Nat.le_refl _) _).alloc (by simp) _).drew⟩ (fun hS => ?_)
  refine wpAnyH_take (i := 0) (oi := ⟨some 13, _, _, _, _, _⟩) (v := .agg #[.int .i64 p.kind, .int .i64 p.v, .int .i64 p.k, .int .i64 p.b]) rfl (by kernel_rfl) (by kernel_rfl) (by kernel_rfl) (fun _ _ _ h => h) (Or.inl ⟨by rfl, fun W hW => by obtain ⟨hp0, hp1, hp2, hp3, hi0, hi1, hi2, hi3, _⟩ := hW; go_simp⟩) hS ?_
  try simp only [Act.put, List.setIfInBounds_toArray, List.set_cons_zero, List.set_cons_succ]
  refine wpAnyH_take (i := 2) (oi := ⟨some 15, _, _, _, _, _⟩) (v := .agg #[.int .i64 i.kind, .int .i64 i.v, .int .i64 i.k, .int .i64 i.b]) rfl (by kernel_rfl) (by kernel_rfl) (by kernel_rfl) (fun _ _ _ h => h) (Or.inl ⟨by rfl, fun W hW => by obtain ⟨hp0, hp1, hp2, hp3, hi0, hi1, hi2, hi3, _⟩ := hW; go_simp⟩) hS ?_
  try simp only [Act.put, List.setIfInBounds_toArray, List.set_cons_zero, List.set_cons_succ]
  refine AnyH.only (i := 1) (o := ⟨some 14, _, _, _, _, _⟩) (by kernel_rfl) rfl (by rfl) (fun K hK => ?_)
  go_simp
  refine (HW2.out _).mono ?_
  rintro e w2 ⟨rfl, hb⟩
  obtain ⟨hp0, hp1, hp2, hp3, hi0, hi1, hi2, hi3, hbw⟩ := hS
  have hS := (show _ ∧ _ ∧ _ ∧ _ ∧ _ ∧ _ ∧ _ ∧ _ ∧ _ from ⟨keepC hp0 hb, keepC hp1 hb, keepC hp2 hb, keepC hp3 hb, keepC hi0 hb, keepC hi1 hb, keepC hi2 hb, keepC hi3 hb, hbw.trans (hb.mono hbw.size)⟩)
  clear hb hp0 hp1 hp2 hp3 hi0 hi1 hi2 hi3 hbw
  refine hK.out _ _ hS ?_
  clear hK K
  try simp only [Act.put, List.setIfInBounds_toArray, List.set_cons_zero, List.set_cons_succ]
  refine AnyH.only (i := 3) (o := ⟨some 16, _, _, _, _, _⟩) (by kernel_rfl) rfl (by rfl) (fun K hK => ?_)
  go_simp
  refine (HW1.out _).mono ?_
  rintro e w3 ⟨rfl, hb⟩
  obtain ⟨hp0, hp1, hp2, hp3, hi0, hi1, hi2, hi3, hbw⟩ := hS
  have hS := (show _ ∧ _ ∧ _ ∧ _ ∧ _ ∧ _ ∧ _ ∧ _ ∧ _ from ⟨keepC hp0 hb, keepC hp1 hb, keepC hp2 hb, keepC hp3 hb, keepC hi0 hb, keepC hi1 hb, keepC hi2 hb, keepC hi3 hb, hbw.trans (hb.mono hbw.size)⟩)
  clear hb hp0 hp1 hp2 hp3 hi0 hi1 hi2 hi3 hbw
  refine hK.out _ _ hS ?_
  clear hK K
  try simp only [Act.put, List.setIfInBounds_toArray, List.set_cons_zero, List.set_cons_succ]
  refine AnyH.only (i := 4) (o := ⟨some 17, _, _, _, _, _⟩) (by kernel_rfl) rfl (by rfl) (fun K hK => ?_)
  go_simp
  have hb : Below w3.heap.size w3 (w3.alloc (.cells #[.int .i64 (wantE p 2), .int .i64 (wantE i 1)] 62)) := (Below.refl _ _).alloc (Nat.le_refl _) _
  obtain ⟨hp0, hp1, hp2, hp3, hi0, hi1, hi2, hi3, hbw⟩ := hS
  have hS := (show _ ∧ _ ∧ _ ∧ _ ∧ _ ∧ _ ∧ _ ∧ _ ∧ _ from ⟨keepC hp0 hb, keepC hp1 hb, keepC hp2 hb, keepC hp3 hb, keepC hi0 hb, keepC hi1 hb, keepC hi2 hb, keepC hi3 hb, hbw.trans (hb.mono hbw.size)⟩)
  clear hb hp0 hp1 hp2 hp3 hi0 hi1 hi2 hi3 hbw
  refine hK.out _ _ hS ?_
  clear hK K
  try simp only [Act.put, List.setIfInBounds_toArray, List.set_cons_zero, List.set_cons_succ]
  refine AnyH.only (i := 5) (o := ⟨some 18, _, _, _, _, _⟩) (by kernel_rfl) rfl (by rfl) (fun K hK => ?_)
  go_simp
  refine (or_any (wantE p 2) (wantE i 1) _ _ (by go_simp) (by go_simp)).mono ?_
  rintro e w4 ⟨rfl, rfl⟩
  refine hK.out _ _ hS ?_
  clear hK K
  try simp only [Act.put, List.setIfInBounds_toArray, List.set_cons_zero, List.set_cons_succ]
  refine wpAnyH_take (i := 6) (oi := ⟨some 10, _, _, _, _, _⟩) (v := .int .i64 (orE (wantE p 2) (wantE i 1))) rfl (by kernel_rfl) (by kernel_rfl) (by kernel_rfl) (fun _ _ _ h => h) (Or.inl ⟨by rfl, fun W _ => by go_simp⟩) hS ?_
  try simp only [Act.put, List.setIfInBounds_toArray, List.set_cons_zero, List.set_cons_succ]
  refine wpAnyH_done (by kernel_rfl) ?_ _
  obtain ⟨hp0, hp1, hp2, hp3, hi0, hi1, hi2, hi3, hbw⟩ := hS
  have HB3 := Lib.hid hbw
  clear hbw
  generalize w3.alloc (.cells #[.int .i64 (wantE p 2), .int .i64 (wantE i 1)] 62) = w5 at *
  by_cases hor : orE (wantE p 2) (wantE i 1) = 0
  case neg =>
    have HRE := Lib.hid (reachE_or (H := H) (wr := wr) hor)
    have HNO := Lib.hid hor
    have t1 : (orE (wantE p 2) (wantE i 1) != 0) = true := by simpa using hor
    clear hor HCH HIN HCK HW1 HW2
    generalize orE (wantE p 2) (wantE i 1) = cd at *
    go_wp2_with fail
    go_ret2
    exact RePost.no HRE.out HNO.out HB3.out
  case pos =>
    rw [hor]
    clear HW1 HW2
    go_wp2_with fail
    ((with_reducible refine (HCH.out _ HB3.out).mono ?_); rintro e w6 ⟨rfl, hb⟩)
    have hi0 := keepC hi0 hb
    have hi1 := keepC hi1 hb
    have hi2 := keepC hi2 hb
    have hi3 := keepC hi3 hb
    have HB6 := Lib.hid (HB3.out.trans (hb.mono HB3.out.size))
    clear hb HCH hp0 hp1 hp2 hp3
    by_cases hce : chunkE H p = 0
    case neg =>
      have HRE := Lib.hid (reachE_chunk (wr := wr) hor hce)
      have HNO := Lib.hid hce
      rw [if_neg hce]
      have t1 : (chunkE H p != 0) = true := by simpa using hce
      clear hor hce HIN HCK
      generalize chunkE H p = cd at *
      go_wp2_with fail
      go_ret2
      exact RePost.no HRE.out HNO.out HB6.out
    case pos =>
      have HRE := Lib.hid (reachE_c (wr := wr) hor hce)
      rw [hce, if_pos rfl]
      obtain ⟨_, kn, hkn, hkl, hck, _⟩ := chunkE_ok hce
      clear hor hce
      generalize ckAt H p.b = c at *
      have hpn : p.b.toNat = kn := by omega
      rw [hpn]
      have HPN := Lib.hid hpn
      obtain ⟨gk, capk, vk, rfl, _, hcm, hgl, hgb, hvk, hcell, hfz⟩ := HCK.out kn c hck
      have HI := Lib.hid fun (W : World) (hW : Below w.heap.size w W) => HIN.out W hW kn c hck _ rfl
      have HQ : Hid (∀ (W : World) (j : Nat), Below w.heap.size w W → j < 11 → W.cell? ⟨gk, kn * 11 + j, none⟩ = (ckCells c vk)[j]?) := Lib.hid fun W j hW hj => (hW.cell (p := ⟨gk, kn * 11 + j, none⟩) hgl).trans (hcell j hj)
      have q0 : w6.cell? ⟨gk, kn * 11, none⟩ = some (.int .i64 c.o) := HQ.out w6 0 HB6.out (by omega)
      have q4 : w6.cell? ⟨gk, kn * 11 + 4, none⟩ = some (.bool c.held) := HQ.out w6 4 HB6.out (by omega)
      clear HCK HIN hcell hfz hvk hpn hkl hck hkn
      simp only [ckPtr] at HI ⊢
      cases wr
      · skip
        by_cases h6 : c.o = 6
        · have t6 : (c.o == 6) = true := by simpa using h6
          by_cases hh : c.held = true
          · rw [hh] at q4
            go_wp2_with fail
            ((with_reducible refine (HI.out _ HB6.out).mono ?_); rintro e w7 ⟨rfl, hb⟩)
            have hi2 := keepC hi2 hb
            have HB7 := Lib.hid (HB6.out.trans (hb.mono HB6.out.size))
            have r0 : w7.cell? ⟨gk, kn * 11, none⟩ = some (.int .i64 c.o) := HQ.out w7 0 HB7.out (by omega)
            have r2 : w7.cell? ⟨gk, kn * 11 + 2, none⟩ = some (.int .i64 c.at') := HQ.out w7 2 HB7.out (by omega)
            have r5 : w7.cell? ⟨gk, kn * 11 + 5, none⟩ = some (.bool c.arr) := HQ.out w7 5 HB7.out (by omega)
            clear hb hi0 hi1 hi3 q0 q4
            generalize hx : insideB H c i = x
            have HX := Lib.hid hx
            clear hx
            cases x
            · go_wp2_with fail
              go_ret2
              exact RePost.no (HRE.out.trans (rc42 (fun h => by cases h.1) (fun h => by rw [hh] at h; cases h.2) HX.out)) (by decide) HB7.out
            · skip
              by_cases ha : c.arr = true
              · have HA := Lib.hid ha
                rw [ha] at r5
                clear ha
                go_wp2_with fail
                go_quiet (fail)
                go_wp2_with fail
                go_ret2
                exact RePost.yes (HRE.out.trans (rc0 (fun h => by cases h.1) (fun h => by rw [hh] at h; cases h.2) HX.out (fun h => by rw [HA.out] at h; cases h.2.1))) (by rw [HPN.out]; rfl) (below_drewN HB7.out _)
              · have ha2 : c.arr = false := by simpa using ha
                have HA := Lib.hid ha2
                rw [ha2] at r5
                clear ha ha2
                by_cases hk : i.k = c.at'
                · have tk : (i.k == c.at') = true := by simpa using hk
                  have HK := Lib.hid hk
                  clear hk
                  go_wp2_with fail
                  go_quiet (fail)
                  go_wp2_with fail
                  go_ret2
                  exact RePost.no (HRE.out.trans (rc45b (fun h => by cases h.1) (fun h => by rw [hh] at h; cases h.2) HX.out ⟨h6, HA.out, HK.out⟩)) (by decide) (below_drewN HB7.out _)
                · have tk : (i.k == c.at') = false := by simpa using hk
                  have HK := Lib.hid hk
                  clear hk
                  go_wp2_with fail
                  go_quiet (fail)
                  go_wp2_with fail
                  go_ret2
                  exact RePost.yes (HRE.out.trans (rc0 (fun h => by cases h.1) (fun h => by rw [hh] at h; cases h.2) HX.out (fun h => HK.out h.2.2))) (by rw [HPN.out]; rfl) (below_drewN HB7.out _)
          · have hh2 : c.held = false := by simpa using hh
            rw [hh2] at q4
            clear HI
            go_wp2_with fail
            go_ret2
            exact RePost.no (HRE.out.trans (rc45 (fun h => by cases h.1) ⟨h6, hh2⟩)) (by decide) HB6.out
        · have t6 : (c.o == 6) = false := by simpa using h6
          go_wp2_with fail
          ((with_reducible refine (HI.out _ HB6.out).mono ?_); rintro e w7 ⟨rfl, hb⟩)
          have hi2 := keepC hi2 hb
          have HB7 := Lib.hid (HB6.out.trans (hb.mono HB6.out.size))
          have r0 : w7.cell? ⟨gk, kn * 11, none⟩ = some (.int .i64 c.o) := HQ.out w7 0 HB7.out (by omega)
          have r2 : w7.cell? ⟨gk, kn * 11 + 2, none⟩ = some (.int .i64 c.at') := HQ.out w7 2 HB7.out (by omega)
          have r5 : w7.cell? ⟨gk, kn * 11 + 5, none⟩ = some (.bool c.arr) := HQ.out w7 5 HB7.out (by omega)
          clear hb hi0 hi1 hi3 q0 q4
          generalize hx : insideB H c i = x
          have HX := Lib.hid hx
          clear hx
          cases x
          · go_wp2_with fail
            go_ret2
            exact RePost.no (HRE.out.trans (rc42 (fun h => by cases h.1) (fun h => h6 h.1) HX.out)) (by decide) HB7.out
          · skip
            go_wp2_with fail
            go_quiet (fail)
            go_wp2_with fail
            go_ret2
            exact RePost.yes (HRE.out.trans (rc0 (fun h => by cases h.1) (fun h => h6 h.1) HX.out (fun h => h6 h.1))) (by rw [HPN.out]; rfl) (below_drewN HB7.out _)
      · by_cases h3 : c.o = 3
        · have t3 : (c.o == 3) = true := by simpa using h3
          clear HI
          go_wp2_with fail
          go_ret2
          exact RePost.no (HRE.out.trans (rc44 ⟨rfl, .inl h3⟩)) (by decide) HB6.out
        · have t3 : (c.o == 3) = false := by simpa using h3
          by_cases h8 : c.o = 8
          · have t8 : (c.o == 8) = true := by simpa using h8
            clear HI
            go_wp2_with fail
            go_ret2
            exact RePost.no (HRE.out.trans (rc44 ⟨rfl, .inr h8⟩)) (by decide) HB6.out
          · have t8 : (c.o == 8) = false := by simpa using h8
            by_cases h6 : c.o = 6
            · have t6 : (c.o == 6) = true := by simpa using h6
              by_cases hh : c.held = true
              · rw [hh] at q4
                go_wp2_with fail
                ((with_reducible refine (HI.out _ HB6.out).mono ?_); rintro e w7 ⟨rfl, hb⟩)
                have hi2 := keepC hi2 hb
                have HB7 := Lib.hid (HB6.out.trans (hb.mono HB6.out.size))
                have r0 : w7.cell? ⟨gk, kn * 11, none⟩ = some (.int .i64 c.o) := HQ.out w7 0 HB7.out (by omega)
                have r2 : w7.cell? ⟨gk, kn * 11 + 2, none⟩ = some (.int .i64 c.at') := HQ.out w7 2 HB7.out (by omega)
                have r5 : w7.cell? ⟨gk, kn * 11 + 5, none⟩ = some (.bool c.arr) := HQ.out w7 5 HB7.out (by omega)
                clear hb hi0 hi1 hi3 q0 q4
                generalize hx : insideB H c i = x
                have HX := Lib.hid hx
                clear hx
                cases x
                · go_wp2_with fail
                  go_ret2
                  exact RePost.no (HRE.out.trans (rc42 (fun h => h.2.elim h3 h8) (fun h => by rw [hh] at h; cases h.2) HX.out)) (by decide) HB7.out
                · skip
                  by_cases ha : c.arr = true
                  · have HA := Lib.hid ha
                    rw [ha] at r5
                    clear ha
                    go_wp2_with fail
                    go_quiet (fail)
                    go_wp2_with fail
                    go_ret2
                    exact RePost.yes (HRE.out.trans (rc0 (fun h => h.2.elim h3 h8) (fun h => by rw [hh] at h; cases h.2) HX.out (fun h => by rw [HA.out] at h; cases h.2.1))) (by rw [HPN.out]; rfl) (below_drewN HB7.out _)
                  · have ha2 : c.arr = false := by simpa using ha
                    have HA := Lib.hid ha2
                    rw [ha2] at r5
                    clear ha ha2
                    by_cases hk : i.k = c.at'
                    · have tk : (i.k == c.at') = true := by simpa using hk
                      have HK := Lib.hid hk
                      clear hk
                      go_wp2_with fail
                      go_quiet (fail)
                      go_wp2_with fail
                      go_ret2
                      exact RePost.no (HRE.out.trans (rc45b (fun h => h.2.elim h3 h8) (fun h => by rw [hh] at h; cases h.2) HX.out ⟨h6, HA.out, HK.out⟩)) (by decide) (below_drewN HB7.out _)
                    · have tk : (i.k == c.at') = false := by simpa using hk
                      have HK := Lib.hid hk
                      clear hk
                      go_wp2_with fail
                      go_quiet (fail)
                      go_wp2_with fail
                      go_ret2
                      exact RePost.yes (HRE.out.trans (rc0 (fun h => h.2.elim h3 h8) (fun h => by rw [hh] at h; cases h.2) HX.out (fun h => HK.out h.2.2))) (by rw [HPN.out]; rfl) (below_drewN HB7.out _)
              · have hh2 : c.held = false := by simpa using hh
                rw [hh2] at q4
                clear HI
                go_wp2_with fail
                go_ret2
                exact RePost.no (HRE.out.trans (rc45 (fun h => h.2.elim h3 h8) ⟨h6, hh2⟩)) (by decide) HB6.out
            · have t6 : (c.o == 6) = false := by simpa using h6
              go_wp2_with fail
              ((with_reducible refine (HI.out _ HB6.out).mono ?_); rintro e w7 ⟨rfl, hb⟩)
              have hi2 := keepC hi2 hb
              have HB7 := Lib.hid (HB6.out.trans (hb.mono HB6.out.size))
              have r0 : w7.cell? ⟨gk, kn * 11, none⟩ = some (.int .i64 c.o) := HQ.out w7 0 HB7.out (by omega)
              have r2 : w7.cell? ⟨gk, kn * 11 + 2, none⟩ = some (.int .i64 c.at') := HQ.out w7 2 HB7.out (by omega)
              have r5 : w7.cell? ⟨gk, kn * 11 + 5, none⟩ = some (.bool c.arr) := HQ.out w7 5 HB7.out (by omega)
              clear hb hi0 hi1 hi3 q0 q4
              generalize hx : insideB H c i = x
              have HX := Lib.hid hx
              clear hx
              cases x
              · go_wp2_with fail
                go_ret2
                exact RePost.no (HRE.out.trans (rc42 (fun h => h.2.elim h3 h8) (fun h => h6 h.1) HX.out)) (by decide) HB7.out
              · skip
                go_wp2_with fail
                go_quiet (fail)
                go_wp2_with fail
                go_ret2
                exact RePost.yes (HRE.out.trans (rc0 (fun h => h.2.elim h3 h8) (fun h => h6 h.1) HX.out (fun h => h6 h.1))) (by rw [HPN.out]; rfl) (below_drewN HB7.out _)

end Go.Proofs.Ytejnjaikalckiaa
