/- wakes of lychgatelaw13 holds. No conditions. -/
import Derived.Test.YtejnjaikalckiaaHLc
namespace Go.Proofs.Ytejnjaikalckiaa
open Go.RowKit

theorem HS.new {T : HTy} {w0 W : World} {l : List Thing} (h : Sep w0 W l) : HS T w0 (W.alloc (.cells #[.slice none 0 0, .int .i64 1, .slice none 0 0] T.heap)) (allT l) W.heap.size (.slice none 0 0) (.slice none 0 0) [] hp0 [] := by
  have h1 := (show Sep w0 W (l ++ []) from by rw [List.append_nil]; exact h)
  have h2 := (h.box [.slice none 0 0, .int .i64 1, .slice none 0 0] T.heap)
  have h3 := (h2.add (Below.refl _ _) (rowT T.chunk 11 (.slice none 0 0) []) ⟨World.ownsRow_nil _ _ _ _, (fun g hg => by simp [Value.ownBlock] at hg), fun r hr => by simp at hr⟩).add (Below.refl _ _) (factT T.leq (.slice none 0 0) [] []) ⟨World.ownsRow_nil _ _ _ _, (fun g hg => by simp [Value.ownBlock] at hg), fun o ho => by simp at ho⟩
  rw [List.append_assoc, List.append_assoc] at h3
  have h4 := (show Sep w0 _ (l ++ [boxT W.heap.size [.slice none 0 0, .int .i64 1, .slice none 0 0] T.heap, rowT T.chunk 11 (.slice none 0 0) [], factT T.leq (.slice none 0 0) [] []]) from h3).pack
  have h5 := (show Sep w0 _ ([allT [boxT W.heap.size [.slice none 0 0, .int .i64 1, .slice none 0 0] T.heap, rowT T.chunk 11 (.slice none 0 0) [], factT T.leq (.slice none 0 0) [] []]] ++ l) from h4).pack
  exact ⟨h5.swap.unpack, rfl⟩
theorem run_make_two (w : World) : (Instr.makeSlice 38 (.int .i64 2) (.int .i64 2)).run Try.prog w = .ok (.slice (some ⟨w.heap.size, 0, none⟩) 2 2) (w.alloc (.cells #[.int .i64 0, .int .i64 0, .int .i64 0, .int .i64 0, .int .i64 0, .int .i64 0, .int .i64 0, .int .i64 0] 36)) := by
  obtain ⟨i, h1, h2, h3, h4⟩ := info_parts Try.infoSym
  have hr := run_make (P := Try.prog) w 38 36 i _ Try.underlying38 h1 h2 .i64 .i64 2 2 (by omega) (Int.le_refl _) (by rw [h4]; omega) (by omega)
  rw [h3] at hr
  exact hr.trans (by kernel_rfl)

def wkC : Ck := ⟨6, 0, 0, true, false, false, sy0, [sy0, sy0]⟩
def wkP : Sy := ⟨2, 0, 0, 0⟩
def wk1 : Hp := ⟨[wkC], 1, []⟩
def wk2 : Hp := ⟨[{ wkC with cells := [sy0, ⟨1, 1, 0, 0⟩], held := true }], 2, [⟨1, 0, 1099511627776⟩, ⟨0, 1, 1099511627776⟩]⟩
theorem wk1Near : ∀ c ∈ wk1.chunks, Near c.size.k := fun c hc => by
  rw [show wk1.chunks = [wkC] from rfl, List.mem_singleton] at hc
  subst hc
  exact ⟨by decide, by decide⟩
theorem wk2Near : ∀ c ∈ wk2.chunks, Near c.size.k := fun c hc => by
  rw [show wk2.chunks = [{ wkC with cells := [sy0, ⟨1, 1, 0, 0⟩], held := true }] from rfl, List.mem_singleton] at hc
  subst hc
  exact ⟨by decide, by decide⟩
theorem wk1Len : wk1.facts.length ≤ 768 := by decide
theorem wk2Len : wk2.facts.length ≤ 768 := by decide
theorem wk1Vars : 0 ≤ wk1.vars ∧ wk1.vars ≤ 96 := by decide
theorem wk2Vars : 0 ≤ wk2.vars ∧ wk2.vars ≤ 96 := by decide
theorem wkL1_E : loadE wk1 wkP ⟨1, 0, 1, 0⟩ = 45 := by kernel_rfl
theorem wkL1_Y : loadY wk1 wkP ⟨1, 0, 1, 0⟩ = sy0 := by kernel_rfl
theorem wkL1_H : loadH wk1 wkP ⟨1, 0, 1, 0⟩ = wk1 := by kernel_rfl
theorem wkL2_E : loadE wk2 wkP ⟨1, 0, 1, 0⟩ = 0 := by kernel_rfl
theorem wkL2_Y : loadY wk2 wkP ⟨1, 0, 1, 0⟩ = ⟨1, 1, 0, 0⟩ := by kernel_rfl
theorem wkL2_H : loadH wk2 wkP ⟨1, 0, 1, 0⟩ = wk2 := by kernel_rfl
theorem wkL3_E : loadE wk2 wkP ⟨1, 0, 0, 0⟩ = 45 := by kernel_rfl
theorem wkL3_Y : loadY wk2 wkP ⟨1, 0, 0, 0⟩ = sy0 := by kernel_rfl
theorem wkL3_H : loadH wk2 wkP ⟨1, 0, 0, 0⟩ = wk2 := by kernel_rfl
theorem wkK_E : lockE wk1 wkP 0 [] = 0 := by kernel_rfl
theorem wkK_H : lockH wk1 wkP 0 [] = wk2 := by kernel_rfl
theorem wk1Cl : ∀ c ∈ wk1.chunks, c.cells.length ≤ 1000000 ∧ ∀ s ∈ c.cells, Near s.k := fun c hc => by
  rw [show wk1.chunks = [wkC] from rfl, List.mem_singleton] at hc
  subst hc
  refine ⟨by decide, fun s hs => ?_⟩
  rw [show wkC.cells = [sy0, sy0] from rfl] at hs
  simp only [List.mem_cons, List.not_mem_nil, or_false, or_self] at hs
  subst hs
  exact ⟨by decide, by decide⟩

set_option maxRecDepth 100000 in
set_option maxHeartbeats 32000000 in
theorem wakes_any (w : World) : Calls Try.prog 8 #[] w fun e w' => e = .returned (.bool true) ∧ Below w.heap.size w w' := by
  go_enter Try.func8, Try.ntmps8
  have hmk := run_make_two
  have h0 := (HS.new (T := pT) (Sep.start w)).quiet ((Below.refl _ _).alloc (Nat.le_refl _) (.cells #[.int .i64 0, .int .i64 0, .int .i64 0, .int .i64 0, .int .i64 0, .int .i64 0, .int .i64 0, .int .i64 0] 36))
  have hsy : SysAt ((w.alloc (.cells #[.slice none 0 0, .int .i64 1, .slice none 0 0] 27)).alloc (.cells #[.int .i64 0, .int .i64 0, .int .i64 0, .int .i64 0, .int .i64 0, .int .i64 0, .int .i64 0, .int .i64 0] 36)) ((w.alloc (.cells #[.slice none 0 0, .int .i64 1, .slice none 0 0] 27)).alloc (.cells #[.int .i64 0, .int .i64 0, .int .i64 0, .int .i64 0, .int .i64 0, .int .i64 0, .int .i64 0, .int .i64 0] 36)).heap.size (some ⟨w.heap.size + 1, 0, none⟩) wkC.cells := fun _ => ⟨w.heap.size + 1, 0, rfl, by simp, fun i s hs => by
    have hb := Blk.new (w.alloc (.cells #[.slice none 0 0, .int .i64 1, .slice none 0 0] 27)) [.int .i64 0, .int .i64 0, .int .i64 0, .int .i64 0, .int .i64 0, .int .i64 0, .int .i64 0, .int .i64 0] 36
    rw [show (w.alloc (.cells #[.slice none 0 0, .int .i64 1, .slice none 0 0] 27)).heap.size = w.heap.size + 1 by simp] at hb
    have hs2 : i < 2 ∧ s = sy0 := by
      have hi := (List.getElem?_eq_some_iff.1 hs).1
      match i, hi, hs with
      | 0, _, hs => cases hs; exact ⟨by omega, rfl⟩
      | 1, _, hs => cases hs; exact ⟨by omega, rfl⟩
    obtain ⟨hi, rfl⟩ := hs2
    match i, hi with
    | 0, _ => exact ⟨hb.cell 0, hb.cell 1, hb.cell 2, hb.cell 3⟩
    | 1, _ => exact ⟨hb.cell 4, hb.cell 5, hb.cell 6, hb.cell 7⟩⟩
  have hput := put_any h0 (by decide) wkC (cap := 2) hsy (by decide)
  change Calls _ _ #[_, .agg #[.int .i64 6, .int .i64 0, .int .i64 0, .bool true, .bool false, .bool false, .int .i64 0, .int .i64 0, .int .i64 0, .int .i64 0, .slice (some ⟨w.heap.size + 1, 0, none⟩) 2 2]] _ _ at hput
  clear h0 hsy
  go_wp2_with fail
  ((with_reducible refine hput.mono ?_); rintro e w2 ⟨vc, v', rfl, hh⟩)
  rw [show putY hp0 = wkP from rfl]
  have HP := Lib.hid (show SyV wkP = .agg #[.int .i64 2, .int .i64 0, .int .i64 0, .int .i64 0] from rfl)
  rw [HP.out]
  clear hput hmk
  go_upto_region 3 with fail
  replace hh : HS pT w (w2.alloc (.cells #[.int .i64 2, .int .i64 0, .int .i64 0, .int .i64 0] 36)) (allT [allT [], boxT w2.heap.size (syCells wkP) 36]) w.heap.size vc (.slice none 0 0) [v'] wk1 [] := HSg.box (show HS pT w w2 (allT []) w.heap.size vc (.slice none 0 0) [v'] wk1 [] from hh) (syCells wkP) 36
  generalize w2.alloc (.cells #[.int .i64 2, .int .i64 0, .int .i64 0, .int .i64 0] 36) = WW at hh ⊢
  generalize w2.heap.size = gp at *
  have SP : ∀ {W : World} {vc vf : Value} {vs : List Value} {H : Hp} {bc : List Value} {olds : List (Value × Nat)}, HSg pT w W (allT [allT [], boxT gp (syCells wkP) 36]) w.heap.size bc vc vf vs H olds → (W.cell? ⟨gp, 0, none⟩ = some (.int .i64 2) ∧ W.cell? ⟨gp, 1, none⟩ = some (.int .i64 0) ∧ W.cell? ⟨gp, 2, none⟩ = some (.int .i64 0) ∧ W.cell? ⟨gp, 3, none⟩ = some (.int .i64 0)) := fun h => ⟨(HSg.local h).1.cell 0, (HSg.local h).1.cell 1, (HSg.local h).1.cell 2, (HSg.local h).1.cell 3⟩
  try simp only [Act.put]
  go_cut [3, 4] (fun x y W => ∃ ga vc vf vs, x = .pointer (some ⟨ga, 0, none⟩) ∧ y = .int .i64 45 ∧ HS pT w W (allT [(allT [allT [], boxT gp (syCells wkP) 36]), boxT ga (syCells sy0) 36]) w.heap.size vc vf vs wk1 [])
  case first =>
    refine wp_region_held_drew (S := fun W => W.cell? ⟨gp, 0, none⟩ = some (.int .i64 2) ∧ W.cell? ⟨gp, 1, none⟩ = some (.int .i64 0) ∧ W.cell? ⟨gp, 2, none⟩ = some (.int .i64 0) ∧ W.cell? ⟨gp, 3, none⟩ = some (.int .i64 0)) (by kernel_rfl) (SP (HSg.quiet hh (Below.refl _ _).drew)) (fun hS => ?_)
    replace hh := HSg.quiet hh (Below.refl _ _).drew
    generalize (WW).drew = wd at hh hS ⊢
    refine wpAnyH_take (i := 0) (oi := ⟨some 17, _, _, _, _, _⟩) (v := .pointer (some ⟨w.heap.size, 0, none⟩)) rfl (by kernel_rfl) (by kernel_rfl) (by kernel_rfl) (fun _ _ _ h => h) (Or.inl ⟨by rfl, fun W _ => by go_simp⟩) hS ?_
    try simp only [Act.put, List.setIfInBounds_toArray, List.set_cons_zero, List.set_cons_succ]
    refine wpAnyH_take (i := 1) (oi := ⟨some 18, _, _, _, _, _⟩) (v := .agg #[.int .i64 2, .int .i64 0, .int .i64 0, .int .i64 0]) rfl (by kernel_rfl) (by kernel_rfl) (by kernel_rfl) (fun _ _ _ h => h) (Or.inl ⟨by rfl, fun W hW => by obtain ⟨p0, p1, p2, p3⟩ := hW; go_simp⟩) hS ?_
    try simp only [Act.put, List.setIfInBounds_toArray, List.set_cons_zero, List.set_cons_succ]
    refine AnyH.pair (i := 2) (k := 7) (o := ⟨some 19, _, _, _, _, _⟩) (u := ⟨some 3, _, _, _, _, _⟩) (by kernel_rfl) rfl rfl (by rfl) (by rfl) (fun K hK => ?_) (fun K hK => ?_)
    · go_simp
      refine (number_any 1 _).mono ?_
      rintro e n1 ⟨rfl, hb⟩
      replace hh := HSg.quiet hh hb
      have hS := SP (hh)
      clear hb
      unfold SyV
      refine hK.out _ _ hS ?_
      clear hK K
      try simp only [Act.put, List.setIfInBounds_toArray, List.set_cons_zero, List.set_cons_succ]
      refine AnyH.pair (i := 3) (k := 7) (o := ⟨some 20, _, _, _, _, _⟩) (u := ⟨some 3, _, _, _, _, _⟩) (by kernel_rfl) rfl rfl (by rfl) (by rfl) (fun K hK => ?_) (fun K hK => ?_)
      · go_simp
        have hl := load_any hh wk1Near wk1Len wk1Vars wkP ⟨1, 0, 1, 0⟩ ⟨by decide, by decide⟩
        rw [wkL1_E, wkL1_Y, wkL1_H] at hl
        simp only [SyV, wkP] at hl
        refine hl.mono ?_
        clear hl hh
        rintro e l2 ⟨vf2, rfl, hh⟩
        have hS := SP (hh)
        refine hK.out _ _ hS ?_
        clear hK K
        try simp only [Act.put, List.setIfInBounds_toArray, List.set_cons_zero, List.set_cons_succ]
        refine wpAnyH_take (i := 4) (oi := ⟨some 16, _, _, _, _, _⟩) (v := .tuple #[.agg #[.int .i64 sy0.kind, .int .i64 sy0.v, .int .i64 sy0.k, .int .i64 sy0.b], .int .i64 45]) rfl (by kernel_rfl) (by kernel_rfl) (by kernel_rfl) (fun _ _ _ h => h) (Or.inl ⟨by rfl, fun W _ => by go_simp⟩) hS ?_
        try simp only [Act.put, List.setIfInBounds_toArray, List.set_cons_zero, List.set_cons_succ]
        refine wpAnyH_take (i := 5) (oi := ⟨some 21, _, _, _, _, _⟩) (v := .agg #[.int .i64 sy0.kind, .int .i64 sy0.v, .int .i64 sy0.k, .int .i64 sy0.b]) rfl (by kernel_rfl) (by kernel_rfl) (by kernel_rfl) (fun _ _ _ h => h) (Or.inl ⟨by rfl, fun W _ => by go_simp⟩) hS ?_
        try simp only [Act.put, List.setIfInBounds_toArray, List.set_cons_zero, List.set_cons_succ]
        refine wpAnyH_take (i := 6) (oi := ⟨some 22, _, _, _, _, _⟩) (v := .int .i64 45) rfl (by kernel_rfl) (by kernel_rfl) (by kernel_rfl) (fun _ _ _ h => h) (Or.inl ⟨by rfl, fun W _ => by go_simp⟩) hS ?_
        try simp only [Act.put, List.setIfInBounds_toArray, List.set_cons_zero, List.set_cons_succ]
        refine AnyH.only (i := 7) (o := ⟨some 3, _, _, _, _, _⟩) (by kernel_rfl) rfl (by rfl) (fun K hK => ?_)
        go_simp
        replace hh := HSg.box hh [.int .i64 0, .int .i64 0, .int .i64 0, .int .i64 0] 36
        have hS := SP (HSg.front hh)
        generalize (l2).alloc (.cells #[.int .i64 0, .int .i64 0, .int .i64 0, .int .i64 0] 36) = a3 at *
        generalize (l2).heap.size = ga at *
        refine hK.out _ _ hS ?_
        clear hK K
        try simp only [Act.put, List.setIfInBounds_toArray, List.set_cons_zero, List.set_cons_succ]
        refine AnyH.only (i := 8) (o := ⟨none, _, _, _, _, _⟩) (by kernel_rfl) rfl (by rfl) (fun K hK => ?_)
        obtain ⟨z0, z1, z2, z3, zz, zl⟩ := (HSg.local hh).1.four
        go_simp
        replace hh := (((HSg.localPut hh 0 (.int .i64 (sy0).kind)).localPut 1 (.int .i64 (sy0).v)).localPut 2 (.int .i64 (sy0).k)).localPut 3 (.int .i64 (sy0).b)
        have hS := SP (HSg.front hh)
        clear z0 z1 z2 z3 zz zl
        refine hK.out _ _ hS ?_
        clear hK K
        try simp only [Act.put, List.setIfInBounds_toArray, List.set_cons_zero, List.set_cons_succ]
        refine wpAnyH_take (i := 9) (oi := ⟨some 4, _, _, _, _, _⟩) (v := .int .i64 45) rfl (by kernel_rfl) (by kernel_rfl) (by kernel_rfl) (fun _ _ _ h => h) (Or.inl ⟨by rfl, fun W _ => by go_simp⟩) hS ?_
        try simp only [Act.put, List.setIfInBounds_toArray, List.set_cons_zero, List.set_cons_succ]
        refine wpAnyH_done (by kernel_rfl) ?_ _
        go_wp2_with fail
        go_meet
        exact ⟨ga, _, _, _, rfl, rfl, hh⟩
      · go_simp
        replace hh := HSg.box hh [.int .i64 0, .int .i64 0, .int .i64 0, .int .i64 0] 36
        have hS := SP (HSg.front hh)
        generalize (n1).alloc (.cells #[.int .i64 0, .int .i64 0, .int .i64 0, .int .i64 0] 36) = a2 at *
        generalize (n1).heap.size = ga at *
        refine hK.out _ _ hS ?_
        clear hK K
        try simp only [Act.put, List.setIfInBounds_toArray, List.set_cons_zero, List.set_cons_succ]
        refine AnyH.only (i := 3) (o := ⟨some 20, _, _, _, _, _⟩) (by kernel_rfl) rfl (by rfl) (fun K hK => ?_)
        go_simp
        have hl := load_any hh wk1Near wk1Len wk1Vars wkP ⟨1, 0, 1, 0⟩ ⟨by decide, by decide⟩
        rw [wkL1_E, wkL1_Y, wkL1_H] at hl
        simp only [SyV, wkP] at hl
        refine hl.mono ?_
        clear hl hh
        rintro e l3 ⟨vf2, rfl, hh⟩
        have hS := SP (HSg.front hh)
        refine hK.out _ _ hS ?_
        clear hK K
        try simp only [Act.put, List.setIfInBounds_toArray, List.set_cons_zero, List.set_cons_succ]
        refine wpAnyH_take (i := 4) (oi := ⟨some 16, _, _, _, _, _⟩) (v := .tuple #[.agg #[.int .i64 sy0.kind, .int .i64 sy0.v, .int .i64 sy0.k, .int .i64 sy0.b], .int .i64 45]) rfl (by kernel_rfl) (by kernel_rfl) (by kernel_rfl) (fun _ _ _ h => h) (Or.inl ⟨by rfl, fun W _ => by go_simp⟩) hS ?_
        try simp only [Act.put, List.setIfInBounds_toArray, List.set_cons_zero, List.set_cons_succ]
        refine wpAnyH_take (i := 5) (oi := ⟨some 21, _, _, _, _, _⟩) (v := .agg #[.int .i64 sy0.kind, .int .i64 sy0.v, .int .i64 sy0.k, .int .i64 sy0.b]) rfl (by kernel_rfl) (by kernel_rfl) (by kernel_rfl) (fun _ _ _ h => h) (Or.inl ⟨by rfl, fun W _ => by go_simp⟩) hS ?_
        try simp only [Act.put, List.setIfInBounds_toArray, List.set_cons_zero, List.set_cons_succ]
        refine wpAnyH_take (i := 6) (oi := ⟨some 22, _, _, _, _, _⟩) (v := .int .i64 45) rfl (by kernel_rfl) (by kernel_rfl) (by kernel_rfl) (fun _ _ _ h => h) (Or.inl ⟨by rfl, fun W _ => by go_simp⟩) hS ?_
        try simp only [Act.put, List.setIfInBounds_toArray, List.set_cons_zero, List.set_cons_succ]
        refine AnyH.only (i := 8) (o := ⟨none, _, _, _, _, _⟩) (by kernel_rfl) rfl (by rfl) (fun K hK => ?_)
        obtain ⟨z0, z1, z2, z3, zz, zl⟩ := (HSg.local hh).1.four
        go_simp
        replace hh := (((HSg.localPut hh 0 (.int .i64 (sy0).kind)).localPut 1 (.int .i64 (sy0).v)).localPut 2 (.int .i64 (sy0).k)).localPut 3 (.int .i64 (sy0).b)
        have hS := SP (HSg.front hh)
        clear z0 z1 z2 z3 zz zl
        refine hK.out _ _ hS ?_
        clear hK K
        try simp only [Act.put, List.setIfInBounds_toArray, List.set_cons_zero, List.set_cons_succ]
        refine wpAnyH_take (i := 9) (oi := ⟨some 4, _, _, _, _, _⟩) (v := .int .i64 45) rfl (by kernel_rfl) (by kernel_rfl) (by kernel_rfl) (fun _ _ _ h => h) (Or.inl ⟨by rfl, fun W _ => by go_simp⟩) hS ?_
        try simp only [Act.put, List.setIfInBounds_toArray, List.set_cons_zero, List.set_cons_succ]
        refine wpAnyH_done (by kernel_rfl) ?_ _
        go_wp2_with fail
        go_meet
        exact ⟨ga, _, _, _, rfl, rfl, hh⟩
    · go_simp
      replace hh := HSg.box hh [.int .i64 0, .int .i64 0, .int .i64 0, .int .i64 0] 36
      have hS := SP (HSg.front hh)
      generalize (wd).alloc (.cells #[.int .i64 0, .int .i64 0, .int .i64 0, .int .i64 0] 36) = a1 at *
      generalize (wd).heap.size = ga at *
      refine hK.out _ _ hS ?_
      clear hK K
      try simp only [Act.put, List.setIfInBounds_toArray, List.set_cons_zero, List.set_cons_succ]
      refine AnyH.only (i := 2) (o := ⟨some 19, _, _, _, _, _⟩) (by kernel_rfl) rfl (by rfl) (fun K hK => ?_)
      go_simp
      refine (number_any 1 _).mono ?_
      rintro e n2 ⟨rfl, hb⟩
      replace hh := HSg.quiet hh hb
      have hS := SP (HSg.front hh)
      clear hb
      unfold SyV
      refine hK.out _ _ hS ?_
      clear hK K
      try simp only [Act.put, List.setIfInBounds_toArray, List.set_cons_zero, List.set_cons_succ]
      refine AnyH.only (i := 3) (o := ⟨some 20, _, _, _, _, _⟩) (by kernel_rfl) rfl (by rfl) (fun K hK => ?_)
      go_simp
      have hl := load_any hh wk1Near wk1Len wk1Vars wkP ⟨1, 0, 1, 0⟩ ⟨by decide, by decide⟩
      rw [wkL1_E, wkL1_Y, wkL1_H] at hl
      simp only [SyV, wkP] at hl
      refine hl.mono ?_
      clear hl hh
      rintro e l3 ⟨vf2, rfl, hh⟩
      have hS := SP (HSg.front hh)
      refine hK.out _ _ hS ?_
      clear hK K
      try simp only [Act.put, List.setIfInBounds_toArray, List.set_cons_zero, List.set_cons_succ]
      refine wpAnyH_take (i := 4) (oi := ⟨some 16, _, _, _, _, _⟩) (v := .tuple #[.agg #[.int .i64 sy0.kind, .int .i64 sy0.v, .int .i64 sy0.k, .int .i64 sy0.b], .int .i64 45]) rfl (by kernel_rfl) (by kernel_rfl) (by kernel_rfl) (fun _ _ _ h => h) (Or.inl ⟨by rfl, fun W _ => by go_simp⟩) hS ?_
      try simp only [Act.put, List.setIfInBounds_toArray, List.set_cons_zero, List.set_cons_succ]
      refine wpAnyH_take (i := 5) (oi := ⟨some 21, _, _, _, _, _⟩) (v := .agg #[.int .i64 sy0.kind, .int .i64 sy0.v, .int .i64 sy0.k, .int .i64 sy0.b]) rfl (by kernel_rfl) (by kernel_rfl) (by kernel_rfl) (fun _ _ _ h => h) (Or.inl ⟨by rfl, fun W _ => by go_simp⟩) hS ?_
      try simp only [Act.put, List.setIfInBounds_toArray, List.set_cons_zero, List.set_cons_succ]
      refine wpAnyH_take (i := 6) (oi := ⟨some 22, _, _, _, _, _⟩) (v := .int .i64 45) rfl (by kernel_rfl) (by kernel_rfl) (by kernel_rfl) (fun _ _ _ h => h) (Or.inl ⟨by rfl, fun W _ => by go_simp⟩) hS ?_
      try simp only [Act.put, List.setIfInBounds_toArray, List.set_cons_zero, List.set_cons_succ]
      refine AnyH.only (i := 8) (o := ⟨none, _, _, _, _, _⟩) (by kernel_rfl) rfl (by rfl) (fun K hK => ?_)
      obtain ⟨z0, z1, z2, z3, zz, zl⟩ := (HSg.local hh).1.four
      go_simp
      replace hh := (((HSg.localPut hh 0 (.int .i64 (sy0).kind)).localPut 1 (.int .i64 (sy0).v)).localPut 2 (.int .i64 (sy0).k)).localPut 3 (.int .i64 (sy0).b)
      have hS := SP (HSg.front hh)
      clear z0 z1 z2 z3 zz zl
      refine hK.out _ _ hS ?_
      clear hK K
      try simp only [Act.put, List.setIfInBounds_toArray, List.set_cons_zero, List.set_cons_succ]
      refine wpAnyH_take (i := 9) (oi := ⟨some 4, _, _, _, _, _⟩) (v := .int .i64 45) rfl (by kernel_rfl) (by kernel_rfl) (by kernel_rfl) (fun _ _ _ h => h) (Or.inl ⟨by rfl, fun W _ => by go_simp⟩) hS ?_
      try simp only [Act.put, List.setIfInBounds_toArray, List.set_cons_zero, List.set_cons_succ]
      refine wpAnyH_done (by kernel_rfl) ?_ _
      go_wp2_with fail
      go_meet
      exact ⟨ga, _, _, _, rfl, rfl, hh⟩
  case rest =>
    obtain ⟨ga, vc, vf, vs, rfl, rfl, hh⟩ := hcut
    rename World => WW
    replace hh := HSg.front hh
    obtain ⟨p0, p1, p2, p3⟩ := SP hh
    have hlk := lock_any hh wk1Len wk1Vars wk1Cl wkP 0 (B := none) (capB := 0) (fs := []) (fun _ _ _ h => by simp at h) (by decide) (fun f hf => by simp at hf)
    rw [wkK_E, wkK_H] at hlk
    simp only [SyV, wkP, List.length_nil] at hlk
    have hpl := (HSg.local hh).1.lt
    clear hh
    go_wp2_with fail
    ((with_reducible refine hlk.mono ?_); rintro e W4 ⟨vf4, vs4, rfl, hh⟩)
    clear hlk p0 p1 p2 p3 hpl
    go_upto_region 5 with fail
    try simp only [Act.put]
    go_cut [6, 7] (fun x y W => ∃ ga vc vf vs, x = .pointer (some ⟨ga, 0, none⟩) ∧ y = .int .i64 0 ∧ HS pT w W (allT [(allT [allT [], boxT gp (syCells wkP) 36]), boxT ga (syCells (⟨1, 1, 0, 0⟩ : Sy)) 36]) w.heap.size vc vf vs wk2 [])
    case first =>
      refine wp_region_held_drew (S := fun W => W.cell? ⟨gp, 0, none⟩ = some (.int .i64 2) ∧ W.cell? ⟨gp, 1, none⟩ = some (.int .i64 0) ∧ W.cell? ⟨gp, 2, none⟩ = some (.int .i64 0) ∧ W.cell? ⟨gp, 3, none⟩ = some (.int .i64 0)) (by kernel_rfl) (SP (HSg.quiet hh (Below.refl _ _).drew)) (fun hS => ?_)
      replace hh := HSg.quiet hh (Below.refl _ _).drew
      generalize (W4).drew = wd at hh hS ⊢
      refine wpAnyH_take (i := 0) (oi := ⟨some 27, _, _, _, _, _⟩) (v := .pointer (some ⟨w.heap.size, 0, none⟩)) rfl (by kernel_rfl) (by kernel_rfl) (by kernel_rfl) (fun _ _ _ h => h) (Or.inl ⟨by rfl, fun W _ => by go_simp⟩) hS ?_
      try simp only [Act.put, List.setIfInBounds_toArray, List.set_cons_zero, List.set_cons_succ]
      refine wpAnyH_take (i := 1) (oi := ⟨some 28, _, _, _, _, _⟩) (v := .agg #[.int .i64 2, .int .i64 0, .int .i64 0, .int .i64 0]) rfl (by kernel_rfl) (by kernel_rfl) (by kernel_rfl) (fun _ _ _ h => h) (Or.inl ⟨by rfl, fun W hW => by obtain ⟨p0, p1, p2, p3⟩ := hW; go_simp⟩) hS ?_
      try simp only [Act.put, List.setIfInBounds_toArray, List.set_cons_zero, List.set_cons_succ]
      refine AnyH.pair (i := 2) (k := 7) (o := ⟨some 29, _, _, _, _, _⟩) (u := ⟨some 6, _, _, _, _, _⟩) (by kernel_rfl) rfl rfl (by rfl) (by rfl) (fun K hK => ?_) (fun K hK => ?_)
      · go_simp
        refine (number_any 1 _).mono ?_
        rintro e n1 ⟨rfl, hb⟩
        replace hh := HSg.quiet hh hb
        have hS := SP (hh)
        clear hb
        unfold SyV
        refine hK.out _ _ hS ?_
        clear hK K
        try simp only [Act.put, List.setIfInBounds_toArray, List.set_cons_zero, List.set_cons_succ]
        refine AnyH.pair (i := 3) (k := 7) (o := ⟨some 30, _, _, _, _, _⟩) (u := ⟨some 6, _, _, _, _, _⟩) (by kernel_rfl) rfl rfl (by rfl) (by rfl) (fun K hK => ?_) (fun K hK => ?_)
        · go_simp
          have hl := load_any hh wk2Near wk2Len wk2Vars wkP ⟨1, 0, 1, 0⟩ ⟨by decide, by decide⟩
          rw [wkL2_E, wkL2_Y, wkL2_H] at hl
          simp only [SyV, wkP] at hl
          refine hl.mono ?_
          clear hl hh
          rintro e l2 ⟨vf2, rfl, hh⟩
          have hS := SP (hh)
          refine hK.out _ _ hS ?_
          clear hK K
          try simp only [Act.put, List.setIfInBounds_toArray, List.set_cons_zero, List.set_cons_succ]
          refine wpAnyH_take (i := 4) (oi := ⟨some 26, _, _, _, _, _⟩) (v := .tuple #[.agg #[.int .i64 (⟨1, 1, 0, 0⟩ : Sy).kind, .int .i64 (⟨1, 1, 0, 0⟩ : Sy).v, .int .i64 (⟨1, 1, 0, 0⟩ : Sy).k, .int .i64 (⟨1, 1, 0, 0⟩ : Sy).b], .int .i64 0]) rfl (by kernel_rfl) (by kernel_rfl) (by kernel_rfl) (fun _ _ _ h => h) (Or.inl ⟨by rfl, fun W _ => by go_simp⟩) hS ?_
          try simp only [Act.put, List.setIfInBounds_toArray, List.set_cons_zero, List.set_cons_succ]
          refine wpAnyH_take (i := 5) (oi := ⟨some 31, _, _, _, _, _⟩) (v := .agg #[.int .i64 (⟨1, 1, 0, 0⟩ : Sy).kind, .int .i64 (⟨1, 1, 0, 0⟩ : Sy).v, .int .i64 (⟨1, 1, 0, 0⟩ : Sy).k, .int .i64 (⟨1, 1, 0, 0⟩ : Sy).b]) rfl (by kernel_rfl) (by kernel_rfl) (by kernel_rfl) (fun _ _ _ h => h) (Or.inl ⟨by rfl, fun W _ => by go_simp⟩) hS ?_
          try simp only [Act.put, List.setIfInBounds_toArray, List.set_cons_zero, List.set_cons_succ]
          refine wpAnyH_take (i := 6) (oi := ⟨some 32, _, _, _, _, _⟩) (v := .int .i64 0) rfl (by kernel_rfl) (by kernel_rfl) (by kernel_rfl) (fun _ _ _ h => h) (Or.inl ⟨by rfl, fun W _ => by go_simp⟩) hS ?_
          try simp only [Act.put, List.setIfInBounds_toArray, List.set_cons_zero, List.set_cons_succ]
          refine AnyH.only (i := 7) (o := ⟨some 6, _, _, _, _, _⟩) (by kernel_rfl) rfl (by rfl) (fun K hK => ?_)
          go_simp
          replace hh := HSg.box hh [.int .i64 0, .int .i64 0, .int .i64 0, .int .i64 0] 36
          have hS := SP (HSg.front hh)
          generalize (l2).alloc (.cells #[.int .i64 0, .int .i64 0, .int .i64 0, .int .i64 0] 36) = a3 at *
          generalize (l2).heap.size = ga at *
          refine hK.out _ _ hS ?_
          clear hK K
          try simp only [Act.put, List.setIfInBounds_toArray, List.set_cons_zero, List.set_cons_succ]
          refine AnyH.only (i := 8) (o := ⟨none, _, _, _, _, _⟩) (by kernel_rfl) rfl (by rfl) (fun K hK => ?_)
          obtain ⟨z0, z1, z2, z3, zz, zl⟩ := (HSg.local hh).1.four
          go_simp
          replace hh := (((HSg.localPut hh 0 (.int .i64 ((⟨1, 1, 0, 0⟩ : Sy)).kind)).localPut 1 (.int .i64 ((⟨1, 1, 0, 0⟩ : Sy)).v)).localPut 2 (.int .i64 ((⟨1, 1, 0, 0⟩ : Sy)).k)).localPut 3 (.int .i64 ((⟨1, 1, 0, 0⟩ : Sy)).b)
          have hS := SP (HSg.front hh)
          clear z0 z1 z2 z3 zz zl
          refine hK.out _ _ hS ?_
          clear hK K
          try simp only [Act.put, List.setIfInBounds_toArray, List.set_cons_zero, List.set_cons_succ]
          refine wpAnyH_take (i := 9) (oi := ⟨some 7, _, _, _, _, _⟩) (v := .int .i64 0) rfl (by kernel_rfl) (by kernel_rfl) (by kernel_rfl) (fun _ _ _ h => h) (Or.inl ⟨by rfl, fun W _ => by go_simp⟩) hS ?_
          try simp only [Act.put, List.setIfInBounds_toArray, List.set_cons_zero, List.set_cons_succ]
          refine wpAnyH_done (by kernel_rfl) ?_ _
          go_wp2_with fail
          go_meet
          exact ⟨ga, _, _, _, rfl, rfl, hh⟩
        · go_simp
          replace hh := HSg.box hh [.int .i64 0, .int .i64 0, .int .i64 0, .int .i64 0] 36
          have hS := SP (HSg.front hh)
          generalize (n1).alloc (.cells #[.int .i64 0, .int .i64 0, .int .i64 0, .int .i64 0] 36) = a2 at *
          generalize (n1).heap.size = ga at *
          refine hK.out _ _ hS ?_
          clear hK K
          try simp only [Act.put, List.setIfInBounds_toArray, List.set_cons_zero, List.set_cons_succ]
          refine AnyH.only (i := 3) (o := ⟨some 30, _, _, _, _, _⟩) (by kernel_rfl) rfl (by rfl) (fun K hK => ?_)
          go_simp
          have hl := load_any hh wk2Near wk2Len wk2Vars wkP ⟨1, 0, 1, 0⟩ ⟨by decide, by decide⟩
          rw [wkL2_E, wkL2_Y, wkL2_H] at hl
          simp only [SyV, wkP] at hl
          refine hl.mono ?_
          clear hl hh
          rintro e l3 ⟨vf2, rfl, hh⟩
          have hS := SP (HSg.front hh)
          refine hK.out _ _ hS ?_
          clear hK K
          try simp only [Act.put, List.setIfInBounds_toArray, List.set_cons_zero, List.set_cons_succ]
          refine wpAnyH_take (i := 4) (oi := ⟨some 26, _, _, _, _, _⟩) (v := .tuple #[.agg #[.int .i64 (⟨1, 1, 0, 0⟩ : Sy).kind, .int .i64 (⟨1, 1, 0, 0⟩ : Sy).v, .int .i64 (⟨1, 1, 0, 0⟩ : Sy).k, .int .i64 (⟨1, 1, 0, 0⟩ : Sy).b], .int .i64 0]) rfl (by kernel_rfl) (by kernel_rfl) (by kernel_rfl) (fun _ _ _ h => h) (Or.inl ⟨by rfl, fun W _ => by go_simp⟩) hS ?_
          try simp only [Act.put, List.setIfInBounds_toArray, List.set_cons_zero, List.set_cons_succ]
          refine wpAnyH_take (i := 5) (oi := ⟨some 31, _, _, _, _, _⟩) (v := .agg #[.int .i64 (⟨1, 1, 0, 0⟩ : Sy).kind, .int .i64 (⟨1, 1, 0, 0⟩ : Sy).v, .int .i64 (⟨1, 1, 0, 0⟩ : Sy).k, .int .i64 (⟨1, 1, 0, 0⟩ : Sy).b]) rfl (by kernel_rfl) (by kernel_rfl) (by kernel_rfl) (fun _ _ _ h => h) (Or.inl ⟨by rfl, fun W _ => by go_simp⟩) hS ?_
          try simp only [Act.put, List.setIfInBounds_toArray, List.set_cons_zero, List.set_cons_succ]
          refine wpAnyH_take (i := 6) (oi := ⟨some 32, _, _, _, _, _⟩) (v := .int .i64 0) rfl (by kernel_rfl) (by kernel_rfl) (by kernel_rfl) (fun _ _ _ h => h) (Or.inl ⟨by rfl, fun W _ => by go_simp⟩) hS ?_
          try simp only [Act.put, List.setIfInBounds_toArray, List.set_cons_zero, List.set_cons_succ]
          refine AnyH.only (i := 8) (o := ⟨none, _, _, _, _, _⟩) (by kernel_rfl) rfl (by rfl) (fun K hK => ?_)
          obtain ⟨z0, z1, z2, z3, zz, zl⟩ := (HSg.local hh).1.four
          go_simp
          replace hh := (((HSg.localPut hh 0 (.int .i64 ((⟨1, 1, 0, 0⟩ : Sy)).kind)).localPut 1 (.int .i64 ((⟨1, 1, 0, 0⟩ : Sy)).v)).localPut 2 (.int .i64 ((⟨1, 1, 0, 0⟩ : Sy)).k)).localPut 3 (.int .i64 ((⟨1, 1, 0, 0⟩ : Sy)).b)
          have hS := SP (HSg.front hh)
          clear z0 z1 z2 z3 zz zl
          refine hK.out _ _ hS ?_
          clear hK K
          try simp only [Act.put, List.setIfInBounds_toArray, List.set_cons_zero, List.set_cons_succ]
          refine wpAnyH_take (i := 9) (oi := ⟨some 7, _, _, _, _, _⟩) (v := .int .i64 0) rfl (by kernel_rfl) (by kernel_rfl) (by kernel_rfl) (fun _ _ _ h => h) (Or.inl ⟨by rfl, fun W _ => by go_simp⟩) hS ?_
          try simp only [Act.put, List.setIfInBounds_toArray, List.set_cons_zero, List.set_cons_succ]
          refine wpAnyH_done (by kernel_rfl) ?_ _
          go_wp2_with fail
          go_meet
          exact ⟨ga, _, _, _, rfl, rfl, hh⟩
      · go_simp
        replace hh := HSg.box hh [.int .i64 0, .int .i64 0, .int .i64 0, .int .i64 0] 36
        have hS := SP (HSg.front hh)
        generalize (wd).alloc (.cells #[.int .i64 0, .int .i64 0, .int .i64 0, .int .i64 0] 36) = a1 at *
        generalize (wd).heap.size = ga at *
        refine hK.out _ _ hS ?_
        clear hK K
        try simp only [Act.put, List.setIfInBounds_toArray, List.set_cons_zero, List.set_cons_succ]
        refine AnyH.only (i := 2) (o := ⟨some 29, _, _, _, _, _⟩) (by kernel_rfl) rfl (by rfl) (fun K hK => ?_)
        go_simp
        refine (number_any 1 _).mono ?_
        rintro e n2 ⟨rfl, hb⟩
        replace hh := HSg.quiet hh hb
        have hS := SP (HSg.front hh)
        clear hb
        unfold SyV
        refine hK.out _ _ hS ?_
        clear hK K
        try simp only [Act.put, List.setIfInBounds_toArray, List.set_cons_zero, List.set_cons_succ]
        refine AnyH.only (i := 3) (o := ⟨some 30, _, _, _, _, _⟩) (by kernel_rfl) rfl (by rfl) (fun K hK => ?_)
        go_simp
        have hl := load_any hh wk2Near wk2Len wk2Vars wkP ⟨1, 0, 1, 0⟩ ⟨by decide, by decide⟩
        rw [wkL2_E, wkL2_Y, wkL2_H] at hl
        simp only [SyV, wkP] at hl
        refine hl.mono ?_
        clear hl hh
        rintro e l3 ⟨vf2, rfl, hh⟩
        have hS := SP (HSg.front hh)
        refine hK.out _ _ hS ?_
        clear hK K
        try simp only [Act.put, List.setIfInBounds_toArray, List.set_cons_zero, List.set_cons_succ]
        refine wpAnyH_take (i := 4) (oi := ⟨some 26, _, _, _, _, _⟩) (v := .tuple #[.agg #[.int .i64 (⟨1, 1, 0, 0⟩ : Sy).kind, .int .i64 (⟨1, 1, 0, 0⟩ : Sy).v, .int .i64 (⟨1, 1, 0, 0⟩ : Sy).k, .int .i64 (⟨1, 1, 0, 0⟩ : Sy).b], .int .i64 0]) rfl (by kernel_rfl) (by kernel_rfl) (by kernel_rfl) (fun _ _ _ h => h) (Or.inl ⟨by rfl, fun W _ => by go_simp⟩) hS ?_
        try simp only [Act.put, List.setIfInBounds_toArray, List.set_cons_zero, List.set_cons_succ]
        refine wpAnyH_take (i := 5) (oi := ⟨some 31, _, _, _, _, _⟩) (v := .agg #[.int .i64 (⟨1, 1, 0, 0⟩ : Sy).kind, .int .i64 (⟨1, 1, 0, 0⟩ : Sy).v, .int .i64 (⟨1, 1, 0, 0⟩ : Sy).k, .int .i64 (⟨1, 1, 0, 0⟩ : Sy).b]) rfl (by kernel_rfl) (by kernel_rfl) (by kernel_rfl) (fun _ _ _ h => h) (Or.inl ⟨by rfl, fun W _ => by go_simp⟩) hS ?_
        try simp only [Act.put, List.setIfInBounds_toArray, List.set_cons_zero, List.set_cons_succ]
        refine wpAnyH_take (i := 6) (oi := ⟨some 32, _, _, _, _, _⟩) (v := .int .i64 0) rfl (by kernel_rfl) (by kernel_rfl) (by kernel_rfl) (fun _ _ _ h => h) (Or.inl ⟨by rfl, fun W _ => by go_simp⟩) hS ?_
        try simp only [Act.put, List.setIfInBounds_toArray, List.set_cons_zero, List.set_cons_succ]
        refine AnyH.only (i := 8) (o := ⟨none, _, _, _, _, _⟩) (by kernel_rfl) rfl (by rfl) (fun K hK => ?_)
        obtain ⟨z0, z1, z2, z3, zz, zl⟩ := (HSg.local hh).1.four
        go_simp
        replace hh := (((HSg.localPut hh 0 (.int .i64 ((⟨1, 1, 0, 0⟩ : Sy)).kind)).localPut 1 (.int .i64 ((⟨1, 1, 0, 0⟩ : Sy)).v)).localPut 2 (.int .i64 ((⟨1, 1, 0, 0⟩ : Sy)).k)).localPut 3 (.int .i64 ((⟨1, 1, 0, 0⟩ : Sy)).b)
        have hS := SP (HSg.front hh)
        clear z0 z1 z2 z3 zz zl
        refine hK.out _ _ hS ?_
        clear hK K
        try simp only [Act.put, List.setIfInBounds_toArray, List.set_cons_zero, List.set_cons_succ]
        refine wpAnyH_take (i := 9) (oi := ⟨some 7, _, _, _, _, _⟩) (v := .int .i64 0) rfl (by kernel_rfl) (by kernel_rfl) (by kernel_rfl) (fun _ _ _ h => h) (Or.inl ⟨by rfl, fun W _ => by go_simp⟩) hS ?_
        try simp only [Act.put, List.setIfInBounds_toArray, List.set_cons_zero, List.set_cons_succ]
        refine wpAnyH_done (by kernel_rfl) ?_ _
        go_wp2_with fail
        go_meet
        exact ⟨ga, _, _, _, rfl, rfl, hh⟩
    case rest =>
      obtain ⟨ga, vc, vf, vs, rfl, rfl, hh⟩ := hcut
      rename World => WW
      generalize ga = g6 at *
      go_upto_region 6 with fail
      try simp only [Act.put]
      go_cut [8, 9] (fun x y W => ∃ ga vc vf vs, x = .pointer (some ⟨ga, 0, none⟩) ∧ y = .int .i64 45 ∧ HS pT w W (allT [(allT [(allT [allT [], boxT gp (syCells wkP) 36]), boxT g6 (syCells (⟨1, 1, 0, 0⟩ : Sy)) 36]), boxT ga (syCells sy0) 36]) w.heap.size vc vf vs wk2 [])
      case first =>
        refine wp_region_held_drew (S := fun W => W.cell? ⟨gp, 0, none⟩ = some (.int .i64 2) ∧ W.cell? ⟨gp, 1, none⟩ = some (.int .i64 0) ∧ W.cell? ⟨gp, 2, none⟩ = some (.int .i64 0) ∧ W.cell? ⟨gp, 3, none⟩ = some (.int .i64 0)) (by kernel_rfl) (SP (HSg.front (HSg.quiet hh (Below.refl _ _).drew))) (fun hS => ?_)
        replace hh := HSg.quiet hh (Below.refl _ _).drew
        generalize (WW).drew = wd at hh hS ⊢
        refine wpAnyH_take (i := 0) (oi := ⟨some 34, _, _, _, _, _⟩) (v := .pointer (some ⟨w.heap.size, 0, none⟩)) rfl (by kernel_rfl) (by kernel_rfl) (by kernel_rfl) (fun _ _ _ h => h) (Or.inl ⟨by rfl, fun W _ => by go_simp⟩) hS ?_
        try simp only [Act.put, List.setIfInBounds_toArray, List.set_cons_zero, List.set_cons_succ]
        refine wpAnyH_take (i := 1) (oi := ⟨some 35, _, _, _, _, _⟩) (v := .agg #[.int .i64 2, .int .i64 0, .int .i64 0, .int .i64 0]) rfl (by kernel_rfl) (by kernel_rfl) (by kernel_rfl) (fun _ _ _ h => h) (Or.inl ⟨by rfl, fun W hW => by obtain ⟨p0, p1, p2, p3⟩ := hW; go_simp⟩) hS ?_
        try simp only [Act.put, List.setIfInBounds_toArray, List.set_cons_zero, List.set_cons_succ]
        refine AnyH.pair (i := 2) (k := 7) (o := ⟨some 36, _, _, _, _, _⟩) (u := ⟨some 8, _, _, _, _, _⟩) (by kernel_rfl) rfl rfl (by rfl) (by rfl) (fun K hK => ?_) (fun K hK => ?_)
        · go_simp
          refine (number_any 0 _).mono ?_
          rintro e n1 ⟨rfl, hb⟩
          replace hh := HSg.quiet hh hb
          have hS := SP (HSg.front (hh))
          clear hb
          unfold SyV
          refine hK.out _ _ hS ?_
          clear hK K
          try simp only [Act.put, List.setIfInBounds_toArray, List.set_cons_zero, List.set_cons_succ]
          refine AnyH.pair (i := 3) (k := 7) (o := ⟨some 37, _, _, _, _, _⟩) (u := ⟨some 8, _, _, _, _, _⟩) (by kernel_rfl) rfl rfl (by rfl) (by rfl) (fun K hK => ?_) (fun K hK => ?_)
          · go_simp
            have hl := load_any hh wk2Near wk2Len wk2Vars wkP ⟨1, 0, 0, 0⟩ ⟨by decide, by decide⟩
            rw [wkL3_E, wkL3_Y, wkL3_H] at hl
            simp only [SyV, wkP] at hl
            refine hl.mono ?_
            clear hl hh
            rintro e l2 ⟨vf2, rfl, hh⟩
            have hS := SP (HSg.front (hh))
            refine hK.out _ _ hS ?_
            clear hK K
            try simp only [Act.put, List.setIfInBounds_toArray, List.set_cons_zero, List.set_cons_succ]
            refine wpAnyH_take (i := 4) (oi := ⟨some 33, _, _, _, _, _⟩) (v := .tuple #[.agg #[.int .i64 sy0.kind, .int .i64 sy0.v, .int .i64 sy0.k, .int .i64 sy0.b], .int .i64 45]) rfl (by kernel_rfl) (by kernel_rfl) (by kernel_rfl) (fun _ _ _ h => h) (Or.inl ⟨by rfl, fun W _ => by go_simp⟩) hS ?_
            try simp only [Act.put, List.setIfInBounds_toArray, List.set_cons_zero, List.set_cons_succ]
            refine wpAnyH_take (i := 5) (oi := ⟨some 38, _, _, _, _, _⟩) (v := .agg #[.int .i64 sy0.kind, .int .i64 sy0.v, .int .i64 sy0.k, .int .i64 sy0.b]) rfl (by kernel_rfl) (by kernel_rfl) (by kernel_rfl) (fun _ _ _ h => h) (Or.inl ⟨by rfl, fun W _ => by go_simp⟩) hS ?_
            try simp only [Act.put, List.setIfInBounds_toArray, List.set_cons_zero, List.set_cons_succ]
            refine wpAnyH_take (i := 6) (oi := ⟨some 39, _, _, _, _, _⟩) (v := .int .i64 45) rfl (by kernel_rfl) (by kernel_rfl) (by kernel_rfl) (fun _ _ _ h => h) (Or.inl ⟨by rfl, fun W _ => by go_simp⟩) hS ?_
            try simp only [Act.put, List.setIfInBounds_toArray, List.set_cons_zero, List.set_cons_succ]
            refine AnyH.only (i := 7) (o := ⟨some 8, _, _, _, _, _⟩) (by kernel_rfl) rfl (by rfl) (fun K hK => ?_)
            go_simp
            replace hh := HSg.box hh [.int .i64 0, .int .i64 0, .int .i64 0, .int .i64 0] 36
            have hS := SP (HSg.front (HSg.front hh))
            generalize (l2).alloc (.cells #[.int .i64 0, .int .i64 0, .int .i64 0, .int .i64 0] 36) = a3 at *
            generalize (l2).heap.size = ga at *
            refine hK.out _ _ hS ?_
            clear hK K
            try simp only [Act.put, List.setIfInBounds_toArray, List.set_cons_zero, List.set_cons_succ]
            refine AnyH.only (i := 8) (o := ⟨none, _, _, _, _, _⟩) (by kernel_rfl) rfl (by rfl) (fun K hK => ?_)
            obtain ⟨z0, z1, z2, z3, zz, zl⟩ := (HSg.local hh).1.four
            go_simp
            replace hh := (((HSg.localPut hh 0 (.int .i64 (sy0).kind)).localPut 1 (.int .i64 (sy0).v)).localPut 2 (.int .i64 (sy0).k)).localPut 3 (.int .i64 (sy0).b)
            have hS := SP (HSg.front (HSg.front hh))
            clear z0 z1 z2 z3 zz zl
            refine hK.out _ _ hS ?_
            clear hK K
            try simp only [Act.put, List.setIfInBounds_toArray, List.set_cons_zero, List.set_cons_succ]
            refine wpAnyH_take (i := 9) (oi := ⟨some 9, _, _, _, _, _⟩) (v := .int .i64 45) rfl (by kernel_rfl) (by kernel_rfl) (by kernel_rfl) (fun _ _ _ h => h) (Or.inl ⟨by rfl, fun W _ => by go_simp⟩) hS ?_
            try simp only [Act.put, List.setIfInBounds_toArray, List.set_cons_zero, List.set_cons_succ]
            refine wpAnyH_done (by kernel_rfl) ?_ _
            go_wp2_with fail
            go_meet
            exact ⟨ga, _, _, _, rfl, rfl, hh⟩
          · go_simp
            replace hh := HSg.box hh [.int .i64 0, .int .i64 0, .int .i64 0, .int .i64 0] 36
            have hS := SP (HSg.front (HSg.front hh))
            generalize (n1).alloc (.cells #[.int .i64 0, .int .i64 0, .int .i64 0, .int .i64 0] 36) = a2 at *
            generalize (n1).heap.size = ga at *
            refine hK.out _ _ hS ?_
            clear hK K
            try simp only [Act.put, List.setIfInBounds_toArray, List.set_cons_zero, List.set_cons_succ]
            refine AnyH.only (i := 3) (o := ⟨some 37, _, _, _, _, _⟩) (by kernel_rfl) rfl (by rfl) (fun K hK => ?_)
            go_simp
            have hl := load_any hh wk2Near wk2Len wk2Vars wkP ⟨1, 0, 0, 0⟩ ⟨by decide, by decide⟩
            rw [wkL3_E, wkL3_Y, wkL3_H] at hl
            simp only [SyV, wkP] at hl
            refine hl.mono ?_
            clear hl hh
            rintro e l3 ⟨vf2, rfl, hh⟩
            have hS := SP (HSg.front (HSg.front hh))
            refine hK.out _ _ hS ?_
            clear hK K
            try simp only [Act.put, List.setIfInBounds_toArray, List.set_cons_zero, List.set_cons_succ]
            refine wpAnyH_take (i := 4) (oi := ⟨some 33, _, _, _, _, _⟩) (v := .tuple #[.agg #[.int .i64 sy0.kind, .int .i64 sy0.v, .int .i64 sy0.k, .int .i64 sy0.b], .int .i64 45]) rfl (by kernel_rfl) (by kernel_rfl) (by kernel_rfl) (fun _ _ _ h => h) (Or.inl ⟨by rfl, fun W _ => by go_simp⟩) hS ?_
            try simp only [Act.put, List.setIfInBounds_toArray, List.set_cons_zero, List.set_cons_succ]
            refine wpAnyH_take (i := 5) (oi := ⟨some 38, _, _, _, _, _⟩) (v := .agg #[.int .i64 sy0.kind, .int .i64 sy0.v, .int .i64 sy0.k, .int .i64 sy0.b]) rfl (by kernel_rfl) (by kernel_rfl) (by kernel_rfl) (fun _ _ _ h => h) (Or.inl ⟨by rfl, fun W _ => by go_simp⟩) hS ?_
            try simp only [Act.put, List.setIfInBounds_toArray, List.set_cons_zero, List.set_cons_succ]
            refine wpAnyH_take (i := 6) (oi := ⟨some 39, _, _, _, _, _⟩) (v := .int .i64 45) rfl (by kernel_rfl) (by kernel_rfl) (by kernel_rfl) (fun _ _ _ h => h) (Or.inl ⟨by rfl, fun W _ => by go_simp⟩) hS ?_
            try simp only [Act.put, List.setIfInBounds_toArray, List.set_cons_zero, List.set_cons_succ]
            refine AnyH.only (i := 8) (o := ⟨none, _, _, _, _, _⟩) (by kernel_rfl) rfl (by rfl) (fun K hK => ?_)
            obtain ⟨z0, z1, z2, z3, zz, zl⟩ := (HSg.local hh).1.four
            go_simp
            replace hh := (((HSg.localPut hh 0 (.int .i64 (sy0).kind)).localPut 1 (.int .i64 (sy0).v)).localPut 2 (.int .i64 (sy0).k)).localPut 3 (.int .i64 (sy0).b)
            have hS := SP (HSg.front (HSg.front hh))
            clear z0 z1 z2 z3 zz zl
            refine hK.out _ _ hS ?_
            clear hK K
            try simp only [Act.put, List.setIfInBounds_toArray, List.set_cons_zero, List.set_cons_succ]
            refine wpAnyH_take (i := 9) (oi := ⟨some 9, _, _, _, _, _⟩) (v := .int .i64 45) rfl (by kernel_rfl) (by kernel_rfl) (by kernel_rfl) (fun _ _ _ h => h) (Or.inl ⟨by rfl, fun W _ => by go_simp⟩) hS ?_
            try simp only [Act.put, List.setIfInBounds_toArray, List.set_cons_zero, List.set_cons_succ]
            refine wpAnyH_done (by kernel_rfl) ?_ _
            go_wp2_with fail
            go_meet
            exact ⟨ga, _, _, _, rfl, rfl, hh⟩
        · go_simp
          replace hh := HSg.box hh [.int .i64 0, .int .i64 0, .int .i64 0, .int .i64 0] 36
          have hS := SP (HSg.front (HSg.front hh))
          generalize (wd).alloc (.cells #[.int .i64 0, .int .i64 0, .int .i64 0, .int .i64 0] 36) = a1 at *
          generalize (wd).heap.size = ga at *
          refine hK.out _ _ hS ?_
          clear hK K
          try simp only [Act.put, List.setIfInBounds_toArray, List.set_cons_zero, List.set_cons_succ]
          refine AnyH.only (i := 2) (o := ⟨some 36, _, _, _, _, _⟩) (by kernel_rfl) rfl (by rfl) (fun K hK => ?_)
          go_simp
          refine (number_any 0 _).mono ?_
          rintro e n2 ⟨rfl, hb⟩
          replace hh := HSg.quiet hh hb
          have hS := SP (HSg.front (HSg.front hh))
          clear hb
          unfold SyV
          refine hK.out _ _ hS ?_
          clear hK K
          try simp only [Act.put, List.setIfInBounds_toArray, List.set_cons_zero, List.set_cons_succ]
          refine AnyH.only (i := 3) (o := ⟨some 37, _, _, _, _, _⟩) (by kernel_rfl) rfl (by rfl) (fun K hK => ?_)
          go_simp
          have hl := load_any hh wk2Near wk2Len wk2Vars wkP ⟨1, 0, 0, 0⟩ ⟨by decide, by decide⟩
          rw [wkL3_E, wkL3_Y, wkL3_H] at hl
          simp only [SyV, wkP] at hl
          refine hl.mono ?_
          clear hl hh
          rintro e l3 ⟨vf2, rfl, hh⟩
          have hS := SP (HSg.front (HSg.front hh))
          refine hK.out _ _ hS ?_
          clear hK K
          try simp only [Act.put, List.setIfInBounds_toArray, List.set_cons_zero, List.set_cons_succ]
          refine wpAnyH_take (i := 4) (oi := ⟨some 33, _, _, _, _, _⟩) (v := .tuple #[.agg #[.int .i64 sy0.kind, .int .i64 sy0.v, .int .i64 sy0.k, .int .i64 sy0.b], .int .i64 45]) rfl (by kernel_rfl) (by kernel_rfl) (by kernel_rfl) (fun _ _ _ h => h) (Or.inl ⟨by rfl, fun W _ => by go_simp⟩) hS ?_
          try simp only [Act.put, List.setIfInBounds_toArray, List.set_cons_zero, List.set_cons_succ]
          refine wpAnyH_take (i := 5) (oi := ⟨some 38, _, _, _, _, _⟩) (v := .agg #[.int .i64 sy0.kind, .int .i64 sy0.v, .int .i64 sy0.k, .int .i64 sy0.b]) rfl (by kernel_rfl) (by kernel_rfl) (by kernel_rfl) (fun _ _ _ h => h) (Or.inl ⟨by rfl, fun W _ => by go_simp⟩) hS ?_
          try simp only [Act.put, List.setIfInBounds_toArray, List.set_cons_zero, List.set_cons_succ]
          refine wpAnyH_take (i := 6) (oi := ⟨some 39, _, _, _, _, _⟩) (v := .int .i64 45) rfl (by kernel_rfl) (by kernel_rfl) (by kernel_rfl) (fun _ _ _ h => h) (Or.inl ⟨by rfl, fun W _ => by go_simp⟩) hS ?_
          try simp only [Act.put, List.setIfInBounds_toArray, List.set_cons_zero, List.set_cons_succ]
          refine AnyH.only (i := 8) (o := ⟨none, _, _, _, _, _⟩) (by kernel_rfl) rfl (by rfl) (fun K hK => ?_)
          obtain ⟨z0, z1, z2, z3, zz, zl⟩ := (HSg.local hh).1.four
          go_simp
          replace hh := (((HSg.localPut hh 0 (.int .i64 (sy0).kind)).localPut 1 (.int .i64 (sy0).v)).localPut 2 (.int .i64 (sy0).k)).localPut 3 (.int .i64 (sy0).b)
          have hS := SP (HSg.front (HSg.front hh))
          clear z0 z1 z2 z3 zz zl
          refine hK.out _ _ hS ?_
          clear hK K
          try simp only [Act.put, List.setIfInBounds_toArray, List.set_cons_zero, List.set_cons_succ]
          refine wpAnyH_take (i := 9) (oi := ⟨some 9, _, _, _, _, _⟩) (v := .int .i64 45) rfl (by kernel_rfl) (by kernel_rfl) (by kernel_rfl) (fun _ _ _ h => h) (Or.inl ⟨by rfl, fun W _ => by go_simp⟩) hS ?_
          try simp only [Act.put, List.setIfInBounds_toArray, List.set_cons_zero, List.set_cons_succ]
          refine wpAnyH_done (by kernel_rfl) ?_ _
          go_wp2_with fail
          go_meet
          exact ⟨ga, _, _, _, rfl, rfl, hh⟩
      case rest =>
        obtain ⟨ga, vc, vf, vs, rfl, rfl, hh⟩ := hcut
        rename World => WW
        have h6 := HSg.front hh
        obtain ⟨y0, y1, y2, y3⟩ := (show WW.cell? ⟨g6, 0, none⟩ = some (.int .i64 1) ∧ WW.cell? ⟨g6, 1, none⟩ = some (.int .i64 1) ∧ WW.cell? ⟨g6, 2, none⟩ = some (.int .i64 0) ∧ WW.cell? ⟨g6, 3, none⟩ = some (.int .i64 0) from ⟨(HSg.local h6).1.cell 0, (HSg.local h6).1.cell 1, (HSg.local h6).1.cell 2, (HSg.local h6).1.cell 3⟩)
        have x1 : WW.cell? ⟨w.heap.size, 1, none⟩ = some (.int .i64 2) := hh.blk.cell 1
        have HB := Lib.hid hh.sep.below
        clear hh h6
        go_wp2_with fail
        go_ret
        exact ⟨rfl, HB.out⟩

end Go.Proofs.Ytejnjaikalckiaa
