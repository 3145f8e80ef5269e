/- Proved here: for every Comparison that lychgatelaw11.ShapeFacts is called with, in every memory in which lex's tables stand as the program's text lays them, the call returns true and the Comparison reads as before. Conditions: the package-level tables lex.keys, lex.blanks and lex.pairs hold what their initialisers lay (the card ties them to the program's text). -/
import Derived.Test.YtdkdidgeaalcgaaDoorWakesS
import Derived.Test.YtdkdidgeaalcgaaDoorOpenC
namespace Go.Proofs.YtdkdidgeaalcgaaDoor
open Go.ChangeShapes Go.WideShapes Go.ChangeAt Go.ChangeMaps Go.RowKit

theorem Tryd.rleqInfo : ∃ i z, RowInfo Tryd.prog 26 31 3 24 i z := by
  have h : (Tryd.prog.info? 31).map (fun i => (i.zero, i.size, i.bytes)) = some (some (.agg #[.int .i64 0, .int .i64 0, .int .i64 0]), 3, 24) := by kernel_rfl
  obtain ⟨i0, hi, hz0, hz1, hz2⟩ := info_parts h
  exact ⟨i0, _, Tryd.underlying26, hi, hz0, hz1, hz2, rfl⟩
theorem Tryd.sizeLeq : (Tryd.prog.info? 30).map (·.size) = some 3 := by kernel_rfl
theorem Tryd.sizeRLeq : (Tryd.prog.info? 31).map (·.size) = some 3 := by kernel_rfl
abbrev RFasAt := RAt 31 3 faCells
def RFactsPost (w : World) (l : List Fa) (e : Ending) (w' : World) : Prop := ∃ v, e = .returned v ∧ RFasAt w' l (fun b => w.heap.size ≤ b) v ∧ Below w.heap.size w w'
theorem rlit (w : World) (f : Fa) (S : Nat → Prop) (hS : S w.heap.size) : RFasAt (w.alloc (.cells #[.int .i64 f.x, .int .i64 f.y, .int .i64 f.c] 31)) [f] S (.slice (some ⟨w.heap.size, 0, none⟩) 1 1) := RAt.lit w [f] (faCells f) 1 rfl (by simp) rfl (by decide) S hS

set_option maxRecDepth 100000 in
set_option maxHeartbeats 2000000 in
theorem rfacts_any (cmp : ByteArray) (a b k l : Int) (w : World) :
    Calls Tryd.prog 9 #[.string cmp, .int .i64 a, .int .i64 b, .int .i64 k, .int .i64 l] w (RFactsPost w (factsL cmp a b k l)) := by
  obtain ⟨i0, z0, I⟩ := Tryd.rleqInfo
  cases h1 : cmp.toList == [60]
  · cases h2 : cmp.toList == [60, 61]
    · cases h3 : cmp.toList == [61, 61]
      · have HR := Lib.hid (show RFactsPost w (factsL cmp a b k l) (.returned (.slice none 0 0)) w by unfold factsL; rw [h1, h2, h3]; exact ⟨_, rfl, RAt.nil _ _, Below.refl _ _⟩)
        go_enter Tryd.func9, Tryd.ntmps9
        go_wp2_with fail
        go_ret
        exact HR.out
      · have HF := Lib.hid (show factsL cmp a b k l = [⟨a, b, wrap64 (l - k)⟩] ++ [⟨b, a, wrap64 (k - l)⟩] by unfold factsL; rw [h1, h2, h3]; rfl)
        have HL1 := Lib.hid (rlit w ⟨a, b, wrap64 (l - k)⟩ (fun _ => True) trivial)
        go_enter Tryd.func9, Tryd.ntmps9
        go_wp2_with (at_builtin; refine wpList_append_ras fa_len fa_one (by omega) (by omega) rfl (.tmp 30) (.tmp 37) rfl I rfl (RAt.nil (w.alloc (.cells #[.int .i64 a, .int .i64 b, .int .i64 (wrap64 (l - k))] 31)) (fun b => w.heap.size ≤ b)) rfl HL1.out ?c3a ?c4a ?_)
        intro v1 w1 hv1 hg1
        have HV1 := Lib.hid hv1
        have HB1 := Lib.hid (((Below.refl w.heap.size w).alloc (Nat.le_refl _) (.cells #[.int .i64 a, .int .i64 b, .int .i64 (wrap64 (l - k))] 31)).grown hg1 (by simp) (fun k hk => by simp [Value.ownBlock] at hk))
        have HL2 := Lib.hid (rlit w1 ⟨b, a, wrap64 (k - l)⟩ (fun _ => True) trivial)
        clear hv1 hg1
        go_wp2_with (at_builtin; refine wpList_append_ras fa_len fa_one (by omega) (by omega) rfl (.tmp 41) (.tmp 48) rfl I rfl (HV1.out.alloc _) rfl HL2.out ?c3b ?c4b ?_)
        case c3b => have := HB1.out.size; omega
        intro v2 w2 hv2 hg2
        have HV2 := Lib.hid hv2
        have HB2 := Lib.hid ((HB1.out.alloc HB1.out.size (.cells #[.int .i64 b, .int .i64 a, .int .i64 (wrap64 (k - l))] 31)).grown hg2 (by have := HB1.out.size; simp; omega) (fun k hk => HV1.out.2 k hk))
        clear hv2 hg2
        go_wp2_with fail
        go_ret
        rw [HF.out]
        exact ⟨_, rfl, HV2.out, HB2.out⟩
    · have h3 : (cmp.toList == [61, 61]) = false := by rw [beq_iff_eq.1 h2]; rfl
      have HF := Lib.hid (show factsL cmp a b k l = [] ++ [⟨a, b, wrap64 (l - k)⟩] by unfold factsL; rw [h1, h2]; rfl)
      have HL1 := Lib.hid (rlit w ⟨a, b, wrap64 (l - k)⟩ (fun _ => True) trivial)
      go_enter Tryd.func9, Tryd.ntmps9
      go_wp2_with (at_builtin; refine wpList_append_ras fa_len fa_one (by omega) (by omega) rfl (.tmp 30) (.tmp 37) rfl I rfl (RAt.nil (w.alloc (.cells #[.int .i64 a, .int .i64 b, .int .i64 (wrap64 (l - k))] 31)) (fun b => w.heap.size ≤ b)) rfl HL1.out ?c3c ?c4c ?_)
      intro v1 w1 hv1 hg1
      have HV1 := Lib.hid hv1
      have HB1 := Lib.hid (((Below.refl w.heap.size w).alloc (Nat.le_refl _) (.cells #[.int .i64 a, .int .i64 b, .int .i64 (wrap64 (l - k))] 31)).grown hg1 (by simp) (fun k hk => by simp [Value.ownBlock] at hk))
      clear hv1 hg1
      go_wp2_with fail
      go_ret
      rw [HF.out]
      exact ⟨_, rfl, HV1.out, HB1.out⟩
  · have h2 : (cmp.toList == [60, 61]) = false := by rw [beq_iff_eq.1 h1]; rfl
    have h3 : (cmp.toList == [61, 61]) = false := by rw [beq_iff_eq.1 h1]; rfl
    have HF := Lib.hid (show factsL cmp a b k l = [] ++ [⟨a, b, wrap64 (wrap64 (l - k) - 1)⟩] by unfold factsL; rw [h1]; rfl)
    have HL1 := Lib.hid (rlit w ⟨a, b, wrap64 (wrap64 (l - k) - 1)⟩ (fun _ => True) trivial)
    go_enter Tryd.func9, Tryd.ntmps9
    go_wp2_with (at_builtin; refine wpList_append_ras fa_len fa_one (by omega) (by omega) rfl (.tmp 14) (.tmp 22) rfl I rfl (RAt.nil (w.alloc (.cells #[.int .i64 a, .int .i64 b, .int .i64 (wrap64 (wrap64 (l - k) - 1))] 31)) (fun b => w.heap.size ≤ b)) rfl HL1.out ?c3d ?c4d ?_)
    intro v1 w1 hv1 hg1
    have HV1 := Lib.hid hv1
    have HB1 := Lib.hid (((Below.refl w.heap.size w).alloc (Nat.le_refl _) (.cells #[.int .i64 a, .int .i64 b, .int .i64 (wrap64 (wrap64 (l - k) - 1))] 31)).grown hg1 (by simp) (fun k hk => by simp [Value.ownBlock] at hk))
    clear hv1 hg1
    go_wp2_with fail
    go_ret
    rw [HF.out]
    exact ⟨_, rfl, HV1.out, HB1.out⟩

set_option maxRecDepth 100000 in
set_option maxHeartbeats 2000000 in
theorem shapeFacts_walk (s : ByteArray) (a b k l : Int) (w : World) (ht : Tabs w) :
    Calls Tryd.prog 3 #[CmpV s a b k l] w fun e w' => e = .returned (.bool true) ∧ Below w.heap.size w w' := by
  have HT := Lib.hid ht
  obtain ⟨W0, hW0⟩ : ∃ W, w.alloc (.cells [.string s, .int .i64 a, .int .i64 b, .int .i64 k, .int .i64 l].toArray 23) = W := ⟨_, rfl⟩
  have HB0 := Lib.hid (show Below w.heap.size w W0 from hW0 ▸ (Below.refl _ _).alloc (Nat.le_refl _) _)
  have HC0 := Lib.hid (show Blk W0 w.heap.size [.string s, .int .i64 a, .int .i64 b, .int .i64 k, .int .i64 l] 23 from hW0 ▸ Blk.new w _ _)
  unfold CmpV
  clear ht
  go_enter Tryd.func3, Tryd.ntmps3
  go_upto_region 1 with fail
  try rw [hW0]
  clear hW0
  refine wp_region_held_drew (S := fun W => Blk W w.heap.size [.string s, .int .i64 a, .int .i64 b, .int .i64 k, .int .i64 l] 23) (by kernel_rfl) HC0.out.drew (fun hS => ?_)
  refine wpAnyH_take (i := 0) (oi := ⟨some 7, _, _, _, _, _⟩) (v := .pointer (some ⟨w.heap.size, 0, none⟩)) rfl (by kernel_rfl) (by kernel_rfl) (by kernel_rfl) (fun _ _ _ h => h) (Or.inl ⟨by rfl, fun W _ => by go_simp⟩) hS ?_
  try simp only [Act.put, List.setIfInBounds_toArray, List.set_cons_zero, List.set_cons_succ]
  refine wpAnyH_take (i := 1) (oi := ⟨some 8, _, _, _, _, _⟩) (v := .string s) rfl (by kernel_rfl) (by kernel_rfl) (by kernel_rfl) (fun _ _ _ h => h) (Or.inl ⟨by rfl, fun W hW => by have hcx : W.cell? ⟨w.heap.size, 0, none⟩ = some (.string s) := (hW).cell 0; go_simp⟩) hS ?_
  try simp only [Act.put, List.setIfInBounds_toArray, List.set_cons_zero, List.set_cons_succ]
  refine wpAnyH_take (i := 2) (oi := ⟨some 9, _, _, _, _, _⟩) (v := .pointer (some ⟨w.heap.size, 1, none⟩)) rfl (by kernel_rfl) (by kernel_rfl) (by kernel_rfl) (fun _ _ _ h => h) (Or.inl ⟨by rfl, fun W _ => by go_simp⟩) hS ?_
  try simp only [Act.put, List.setIfInBounds_toArray, List.set_cons_zero, List.set_cons_succ]
  refine wpAnyH_take (i := 3) (oi := ⟨some 10, _, _, _, _, _⟩) (v := .int .i64 a) rfl (by kernel_rfl) (by kernel_rfl) (by kernel_rfl) (fun _ _ _ h => h) (Or.inl ⟨by rfl, fun W hW => by have hcx : W.cell? ⟨w.heap.size, 1, none⟩ = some (.int .i64 a) := (hW).cell 1; go_simp⟩) hS ?_
  try simp only [Act.put, List.setIfInBounds_toArray, List.set_cons_zero, List.set_cons_succ]
  refine wpAnyH_take (i := 4) (oi := ⟨some 11, _, _, _, _, _⟩) (v := .pointer (some ⟨w.heap.size, 2, none⟩)) rfl (by kernel_rfl) (by kernel_rfl) (by kernel_rfl) (fun _ _ _ h => h) (Or.inl ⟨by rfl, fun W _ => by go_simp⟩) hS ?_
  try simp only [Act.put, List.setIfInBounds_toArray, List.set_cons_zero, List.set_cons_succ]
  refine wpAnyH_take (i := 5) (oi := ⟨some 12, _, _, _, _, _⟩) (v := .int .i64 b) rfl (by kernel_rfl) (by kernel_rfl) (by kernel_rfl) (fun _ _ _ h => h) (Or.inl ⟨by rfl, fun W hW => by have hcx : W.cell? ⟨w.heap.size, 2, none⟩ = some (.int .i64 b) := (hW).cell 2; go_simp⟩) hS ?_
  try simp only [Act.put, List.setIfInBounds_toArray, List.set_cons_zero, List.set_cons_succ]
  refine wpAnyH_take (i := 6) (oi := ⟨some 13, _, _, _, _, _⟩) (v := .pointer (some ⟨w.heap.size, 3, none⟩)) rfl (by kernel_rfl) (by kernel_rfl) (by kernel_rfl) (fun _ _ _ h => h) (Or.inl ⟨by rfl, fun W _ => by go_simp⟩) hS ?_
  try simp only [Act.put, List.setIfInBounds_toArray, List.set_cons_zero, List.set_cons_succ]
  refine wpAnyH_take (i := 7) (oi := ⟨some 14, _, _, _, _, _⟩) (v := .int .i64 k) rfl (by kernel_rfl) (by kernel_rfl) (by kernel_rfl) (fun _ _ _ h => h) (Or.inl ⟨by rfl, fun W hW => by have hcx : W.cell? ⟨w.heap.size, 3, none⟩ = some (.int .i64 k) := (hW).cell 3; go_simp⟩) hS ?_
  try simp only [Act.put, List.setIfInBounds_toArray, List.set_cons_zero, List.set_cons_succ]
  refine wpAnyH_take (i := 8) (oi := ⟨some 15, _, _, _, _, _⟩) (v := .pointer (some ⟨w.heap.size, 4, none⟩)) rfl (by kernel_rfl) (by kernel_rfl) (by kernel_rfl) (fun _ _ _ h => h) (Or.inl ⟨by rfl, fun W _ => by go_simp⟩) hS ?_
  try simp only [Act.put, List.setIfInBounds_toArray, List.set_cons_zero, List.set_cons_succ]
  refine wpAnyH_take (i := 9) (oi := ⟨some 16, _, _, _, _, _⟩) (v := .int .i64 l) rfl (by kernel_rfl) (by kernel_rfl) (by kernel_rfl) (fun _ _ _ h => h) (Or.inl ⟨by rfl, fun W hW => by have hcx : W.cell? ⟨w.heap.size, 4, none⟩ = some (.int .i64 l) := (hW).cell 4; go_simp⟩) hS ?_
  try simp only [Act.put, List.setIfInBounds_toArray, List.set_cons_zero, List.set_cons_succ]
  refine wpAnyH_take (i := 11) (oi := ⟨some 18, _, _, _, _, _⟩) (v := .pointer (some ⟨w.heap.size, 0, none⟩)) rfl (by kernel_rfl) (by kernel_rfl) (by kernel_rfl) (fun _ _ _ h => h) (Or.inl ⟨by rfl, fun W _ => by go_simp⟩) hS ?_
  try simp only [Act.put, List.setIfInBounds_toArray, List.set_cons_zero, List.set_cons_succ]
  refine wpAnyH_take (i := 12) (oi := ⟨some 19, _, _, _, _, _⟩) (v := .string s) rfl (by kernel_rfl) (by kernel_rfl) (by kernel_rfl) (fun _ _ _ h => h) (Or.inl ⟨by rfl, fun W hW => by have hcx : W.cell? ⟨w.heap.size, 0, none⟩ = some (.string s) := (hW).cell 0; go_simp⟩) hS ?_
  try simp only [Act.put, List.setIfInBounds_toArray, List.set_cons_zero, List.set_cons_succ]
  refine wpAnyH_take (i := 13) (oi := ⟨some 20, _, _, _, _, _⟩) (v := .pointer (some ⟨w.heap.size, 1, none⟩)) rfl (by kernel_rfl) (by kernel_rfl) (by kernel_rfl) (fun _ _ _ h => h) (Or.inl ⟨by rfl, fun W _ => by go_simp⟩) hS ?_
  try simp only [Act.put, List.setIfInBounds_toArray, List.set_cons_zero, List.set_cons_succ]
  refine wpAnyH_take (i := 14) (oi := ⟨some 21, _, _, _, _, _⟩) (v := .int .i64 a) rfl (by kernel_rfl) (by kernel_rfl) (by kernel_rfl) (fun _ _ _ h => h) (Or.inl ⟨by rfl, fun W hW => by have hcx : W.cell? ⟨w.heap.size, 1, none⟩ = some (.int .i64 a) := (hW).cell 1; go_simp⟩) hS ?_
  try simp only [Act.put, List.setIfInBounds_toArray, List.set_cons_zero, List.set_cons_succ]
  refine wpAnyH_take (i := 15) (oi := ⟨some 22, _, _, _, _, _⟩) (v := .pointer (some ⟨w.heap.size, 2, none⟩)) rfl (by kernel_rfl) (by kernel_rfl) (by kernel_rfl) (fun _ _ _ h => h) (Or.inl ⟨by rfl, fun W _ => by go_simp⟩) hS ?_
  try simp only [Act.put, List.setIfInBounds_toArray, List.set_cons_zero, List.set_cons_succ]
  refine wpAnyH_take (i := 16) (oi := ⟨some 23, _, _, _, _, _⟩) (v := .int .i64 b) rfl (by kernel_rfl) (by kernel_rfl) (by kernel_rfl) (fun _ _ _ h => h) (Or.inl ⟨by rfl, fun W hW => by have hcx : W.cell? ⟨w.heap.size, 2, none⟩ = some (.int .i64 b) := (hW).cell 2; go_simp⟩) hS ?_
  try simp only [Act.put, List.setIfInBounds_toArray, List.set_cons_zero, List.set_cons_succ]
  refine wpAnyH_take (i := 17) (oi := ⟨some 24, _, _, _, _, _⟩) (v := .pointer (some ⟨w.heap.size, 3, none⟩)) rfl (by kernel_rfl) (by kernel_rfl) (by kernel_rfl) (fun _ _ _ h => h) (Or.inl ⟨by rfl, fun W _ => by go_simp⟩) hS ?_
  try simp only [Act.put, List.setIfInBounds_toArray, List.set_cons_zero, List.set_cons_succ]
  refine wpAnyH_take (i := 18) (oi := ⟨some 25, _, _, _, _, _⟩) (v := .int .i64 k) rfl (by kernel_rfl) (by kernel_rfl) (by kernel_rfl) (fun _ _ _ h => h) (Or.inl ⟨by rfl, fun W hW => by have hcx : W.cell? ⟨w.heap.size, 3, none⟩ = some (.int .i64 k) := (hW).cell 3; go_simp⟩) hS ?_
  try simp only [Act.put, List.setIfInBounds_toArray, List.set_cons_zero, List.set_cons_succ]
  refine wpAnyH_take (i := 19) (oi := ⟨some 26, _, _, _, _, _⟩) (v := .pointer (some ⟨w.heap.size, 4, none⟩)) rfl (by kernel_rfl) (by kernel_rfl) (by kernel_rfl) (fun _ _ _ h => h) (Or.inl ⟨by rfl, fun W _ => by go_simp⟩) hS ?_
  try simp only [Act.put, List.setIfInBounds_toArray, List.set_cons_zero, List.set_cons_succ]
  refine wpAnyH_take (i := 20) (oi := ⟨some 27, _, _, _, _, _⟩) (v := .int .i64 l) rfl (by kernel_rfl) (by kernel_rfl) (by kernel_rfl) (fun _ _ _ h => h) (Or.inl ⟨by rfl, fun W hW => by have hcx : W.cell? ⟨w.heap.size, 4, none⟩ = some (.int .i64 l) := (hW).cell 4; go_simp⟩) hS ?_
  try simp only [Act.put, List.setIfInBounds_toArray, List.set_cons_zero, List.set_cons_succ]
  refine AnyH.only (i := 10) (o := ⟨some 17, _, _, _, _, _⟩) (by kernel_rfl) rfl (by rfl) (fun K hK => ?_)
  go_simp
  refine (facts_any s a b k l _).mono ?_
  rintro e w1 ⟨v1, rfl, hv1, hb⟩
  have HB1 := Lib.hid (HB0.out.drew.trans (hb.mono HB0.out.drew.size))
  have HV1 := Lib.hid hv1
  replace hS := hS.stays hb
  clear hb hv1
  refine hK.out _ _ hS ?_
  clear hK K
  try simp only [Act.put, List.setIfInBounds_toArray, List.set_cons_zero, List.set_cons_succ]
  refine AnyH.only (i := 21) (o := ⟨some 28, _, _, _, _, _⟩) (by kernel_rfl) rfl (by rfl) (fun K hK => ?_)
  go_simp
  refine (rfacts_any s a b k l _).mono ?_
  rintro e w2 ⟨v2, rfl, hv2, hb⟩
  have HB2 := Lib.hid (HB1.out.trans (hb.mono HB1.out.size))
  have HV2 := Lib.hid (HV1.out.below hb)
  have HU2 := Lib.hid hv2
  replace hS := hS.stays hb
  clear hb hv2
  refine hK.out _ _ hS ?_
  clear hK K
  try simp only [Act.put, List.setIfInBounds_toArray, List.set_cons_zero, List.set_cons_succ]
  refine wpAnyH_take (i := 22) (oi := ⟨some 3, _, _, _, _, _⟩) (v := v1) rfl (by kernel_rfl) (by kernel_rfl) (by kernel_rfl) (fun _ _ _ h => h) (Or.inl ⟨by rfl, fun W _ => by go_simp⟩) hS ?_
  try simp only [Act.put, List.setIfInBounds_toArray, List.set_cons_zero, List.set_cons_succ]
  refine wpAnyH_take (i := 23) (oi := ⟨some 4, _, _, _, _, _⟩) (v := v2) rfl (by kernel_rfl) (by kernel_rfl) (by kernel_rfl) (fun _ _ _ h => h) (Or.inl ⟨by rfl, fun W _ => by go_simp⟩) hS ?_
  try simp only [Act.put, List.setIfInBounds_toArray, List.set_cons_zero, List.set_cons_succ]
  refine wpAnyH_done (by kernel_rfl) ?_ _
  clear hS
  generalize factsL s a b k l = fs at *
  obtain ⟨a1, k1, rfl⟩ := RAt.slice HV2.out
  obtain ⟨a2, k2, rfl⟩ := RAt.slice HU2.out
  have HWK := Lib.hid (wakes11_any w2 (HT.out.below HB2.out HT.out.size))
  clear HV1
  go_wp2_with fail
  refine HWK.out.mono ?_
  rintro e w3 ⟨rfl, hb⟩
  have HB3 := Lib.hid (HB2.out.trans (hb.mono HB2.out.size))
  have HV3 := Lib.hid (HV2.out.below hb)
  have HU3 := Lib.hid (HU2.out.below hb)
  clear hb HWK
  go_wp2_with fail
  go_loopw [40] (fun i wr => ∃ j : Nat, j ≤ fs.length ∧ i = .int .i64 j ∧ Below w3.heap.size w3 wr) (fun i _ => fs.length - (intOf i).toNat)
  case atStart => exact ⟨0, by omega, rfl, Below.refl _ _⟩
  case round =>
    obtain ⟨j, hj, rfl, hbw⟩ := hrel
    by_cases hlt : j < fs.length
    · obtain ⟨f, hf⟩ : ∃ f, fs[j]? = some f := ⟨_, List.getElem?_eq_getElem hlt⟩
      obtain ⟨g, cp, hg0, hg1, hg2, hg3, hget⟩ := (RAt.form fa_len HV3.out).resolve_left fun h => by rw [h.2] at hlt; simp at hlt
      obtain ⟨rfl, rfl⟩ : a1 = some ⟨g, 0, none⟩ ∧ k1 = cp := by simpa using hg0
      obtain ⟨g', cp', hg0', hg1', hg2', hg3', hget'⟩ := (RAt.form fa_len HU3.out).resolve_left fun h => by rw [h.2] at hlt; simp at hlt
      obtain ⟨rfl, rfl⟩ : a2 = some ⟨g', 0, none⟩ ∧ k2 = cp' := by simpa using hg0'
      have HR := Lib.hid (rangeAt_below (hget j f hf) hbw hg1.2)
      obtain ⟨W4, hW4⟩ : ∃ W, wr.alloc (.cells (faCells f).toArray 30) = W := ⟨_, rfl⟩
      have hb4 : Below wr.heap.size wr W4 := hW4 ▸ (Below.refl _ _).alloc (Nat.le_refl _) _
      have HBW := Lib.hid (hbw.trans (hb4.mono hbw.size))
      have hr' := rangeAt_below (hget' j f hf) HBW.out hg1'.2
      have h4 := show Blk W4 wr.heap.size (faCells f) 30 from hW4 ▸ Blk.new wr _ _
      have c0 : W4.cell? ⟨wr.heap.size, 0, none⟩ = some (.int .i64 f.x) := h4.cell 0
      have c1 : W4.cell? ⟨wr.heap.size, 1, none⟩ = some (.int .i64 f.y) := h4.cell 1
      have c2 : W4.cell? ⟨wr.heap.size, 2, none⟩ = some (.int .i64 f.c) := h4.cell 2
      have d0 : W4.cell? ⟨g', j * 3, none⟩ = some (.int .i64 f.x) := hr' 0 _ rfl
      have d1 : W4.cell? ⟨g', j * 3 + 1, none⟩ = some (.int .i64 f.y) := hr' 1 _ rfl
      have d2 : W4.cell? ⟨g', j * 3 + 2, none⟩ = some (.int .i64 f.c) := hr' 2 _ rfl
      have hj1 : (j : Int) < (fs.length : Int) := by omega
      clear hget hget' hr' h4 hb4 hbw hf hg0 hg0'
      unfold maxLen at hg3 hg3'
      go_wp2_with (first
        | ((with_reducible refine at_ld 30 (.tmp 43) ?_); refine wpList_load_mid rfl 30 (.tmp 43) rfl g (j * 3) rfl (faCells f) _ HR.out Tryd.underlying30 rfl Tryd.sizeLeq ?_)
        | ((with_reducible refine at_st 30 (.tmp 6) ?_); refine wpList_store_new rfl 30 (.tmp 6) (.tmp 44) rfl (faCells f) (old := [.int .i64 0, .int .i64 0, .int .i64 0]) rfl rfl Tryd.sizeLeq rfl (fa_one f) ?_; rw [hW4]))
      clear hW4
      go_quiet (fail)
      go_wp2_with fail
      go_roundw
      case rel => exact ⟨j + 1, by omega, by go_num, below_nqS HBW.out _⟩
      case measure => simp [intOf]; omega
    · have HB6 := Lib.hid (HB3.out.trans (hbw.mono HB3.out.size))
      go_wp2_with fail
      go_ret
      exact ⟨rfl, HB6.out⟩

theorem shapeFacts_reads (os : Os) {H : Type} (enc : TypeId × Value → H) : ∃ places, DataW.whole enc Tryd.prog ((laidWorld os).forCall (fun _ _ => 0) ⟨#[], #[CmpV ⟨#[]⟩ 0 0 0 0], []⟩).memory Tryd.f3.params.toList Rows.shapeFactsSpec.vars false (#[CmpV ⟨#[]⟩ 0 0 0 0] : Array Value).toList 8 = some ([.agg [.lit (.string []), .lit (.int .i64 0), .lit (.int .i64 0), .lit (.int .i64 0), .lit (.int .i64 0)]], [], places) :=
  ⟨[], by kernel_rfl⟩

set_option maxRecDepth 100000 in
theorem shapeFacts_lifted (os : Os) (started : os.Started) (H : Type) (enc : TypeId × Value → H) (F : Stop.Interp) :
    ReturnsInHanded {} Tryd.checked os 3 .any ((OpenSpec.ofChange Rows.shapeFactsSpec).preRow enc Tryd.prog Tryd.f3 Rows.shapeFactsRow.domain false Rows.shapeFactsRow.laid) (((OpenSpec.ofChange Rows.shapeFactsSpec).at F).post enc Tryd.prog Tryd.f3 false true false false) := by
  obtain ⟨places, hx⟩ := shapeFacts_reads os enc
  refine returnsInHanded_of_row (C := Tryd.checked) (s := OpenSpec.ofChange Rows.shapeFactsSpec) own started (by kernel_rfl) Tryd.func3
    (witness_row_at (enc := enc) (C := Tryd.checked) false (laidWorld os) #[CmpV ⟨#[]⟩ 0 0 0 0] rfl (by kernel_rfl) (by kernel_rfl) (by kernel_rfl)
      (OpenSpec.preRow_of_cond 8 hx (by kernel_rfl) (fun k hk => by cases hk) (by kernel_rfl) (laid_met_cmp os))) ?_
  intro W base args ds gs before hval hW _ _ _ hL _ _
  exact cmp_contract Tryd.params3 (by kernel_rfl) rfl (fun _ => rfl) shapeFacts_walk W base args ds gs before hval hW hL

theorem shapeFacts_said : Rows.ShapeFactsSaid :=
  OpenClaim.holds_of_cond 3 Tryd.f3 rfl rfl rfl rfl rfl rfl rfl ⟨rfl, rfl, rfl, rfl, rfl⟩ rfl rfl rfl rfl rfl (by kernel_rfl) Tryd.func3 (by kernel_rfl)
    (of_decide_eq_true (by kernel_rfl)) (by unfold Func.isWrapper; first | (rw [if_pos (by decide +kernel)]; kernel_rfl) | (rw [if_neg (by decide +kernel)]; exact ⟨rfl, rfl⟩))
    (fun os started H enc _ F => by rw [OpenClaim.pre_eq_preRow]; exact shapeFacts_lifted os started H enc F)

theorem shapeFacts_plain (f : FuncId) (fn : Func) (hf : Tryd.pinned.checked.prog.funcNamed "lychgate/lychgatelaw11.ShapeFacts" = some f) (hfn : Tryd.pinned.checked.prog.funcs[f]? = some fn) :
    true = Tryd.pinned.checked.prog.looks [] ∧ ∀ (j : Nat) t, fn.params[j]? = some t → Tryd.pinned.checked.prog.wantsStandIn t = false := by
  obtain rfl : f = 3 := Option.some.inj ((show Tryd.prog.funcNamed "lychgate/lychgatelaw11.ShapeFacts" = some 3 by kernel_rfl).symm.trans hf) |>.symm
  obtain rfl : fn = Tryd.f3 := (Option.some.inj (Tryd.func3.symm.trans hfn)).symm
  refine ⟨by kernel_rfl, fun j t ht => ?_⟩
  rw [Tryd.params3] at ht
  obtain rfl : t = 23 := by simpa using Array.mem_of_getElem? ht
  exact (show Tryd.prog.wantsStandIn 23 = false by kernel_rfl)

theorem shapeFacts_card : Rows.ShapeFactsCardSaid :=
  Claim7.holds_tied_plain_at .later [] _ _ _ _ shapeFacts_said (fun _ h => by cases h) (by kernel_rfl) (fun _ h => by cases h) shapeFacts_row_tie rfl ⟨rfl, rfl⟩ (by kernel_rfl) rfl shapeFacts_plain (by kernel_rfl)

end Go.Proofs.YtdkdidgeaalcgaaDoor
