/- The contract of lychgatelaw13.facts. -/
import Derived.Test.YtejnjaikalckiaaHCu
namespace Go.Proofs.Ytejnjaikalckiaa
open Go.RowKit

def fcut (n : Int) (f : F) : F := ⟨max 0 f.x % n, max 0 f.y % n, cutI f.c⟩
def factsL (l : List F) (n : Int) : List F := (l.take 9).map (fcut n)
theorem fcut_ok {n : Int} (hn : 1 ≤ n) (f : F) : 0 ≤ (fcut n f).x ∧ (fcut n f).x < n ∧ 0 ≤ (fcut n f).y ∧ (fcut n f).y < n ∧ -1099511627776 ≤ (fcut n f).c ∧ (fcut n f).c ≤ 1099511627776 :=
  ⟨Int.emod_nonneg _ (by omega), Int.emod_lt_of_pos _ (by omega), Int.emod_nonneg _ (by omega), Int.emod_lt_of_pos _ (by omega), (cutI_bd _).1, (cutI_bd _).2⟩
theorem factsL_len (l : List F) (n : Int) : (factsL l n).length ≤ 9 := by unfold factsL; rw [List.length_map, List.length_take]; omega

def FsPost (t : TypeId) (fs : List F) (w : World) (e : Ending) (w' : World) : Prop :=
  ∃ A cap, e = .returned (.slice A fs.length cap) ∧ w'.ownsRow 0 t 3 (.slice A fs.length cap) fs.length (factCells fs) ∧ (∀ g, (Value.slice A fs.length cap).ownBlock = some g → w.heap.size ≤ g) ∧ Below w.heap.size w w'

set_option maxRecDepth 100000 in
set_option maxHeartbeats 16000000 in
theorem facts_any {A : Option Addr} {cap : Nat} {l : List F} {n : Int} (w : World) (hA : FactsAt w w.heap.size A l) (hc : l.length ≤ cap) (hm : cap ≤ maxLen) (hn : 1 ≤ n ∧ n ≤ 1000) :
    Calls Try.prog 17 #[.slice A l.length cap, .int .i64 n] w (FsPost 45 (factsL l n) w) := by
  obtain ⟨N, hN, hN1, hN2, hN3⟩ : ∃ N : Nat, (if (9 : Int) < (l.length : Int) then (9 : Int) else (l.length : Int)) = (N : Int) ∧ N ≤ 9 ∧ N ≤ l.length ∧ l.take 9 = l.take N := by
    by_cases h : (9 : Int) < (l.length : Int)
    · exact ⟨9, by rw [if_pos h]; rfl, by omega, by omega, rfl⟩
    · exact ⟨l.length, by rw [if_neg h], by omega, Nat.le_refl _, by rw [List.take_of_length_le (by omega), List.take_length]⟩
  have HA := Lib.hid hA
  have HN3 := Lib.hid hN3
  obtain ⟨hn1, hn2⟩ := hn
  have hn0 : ¬ n = 0 := by omega
  obtain ⟨i0, z0, I⟩ := Try.leqRow
  unfold maxLen at hm
  clear hA hN3
  go_enter Try.func17, Try.ntmps17
  go_wp2_with fail
  go_loopw [5, 14] (fun v i wr => ∃ (k : Nat) (A1 : Option Addr) (cap1 : Nat), k ≤ N ∧ i = .int .i64 k ∧ v = .slice A1 k cap1 ∧ wr.ownsRow 0 45 3 (.slice A1 k cap1) k (factCells ((l.take k).map (fcut n))) ∧ (∀ g, (Value.slice A1 k cap1).ownBlock = some g → w.heap.size ≤ g) ∧ Below w.heap.size w wr) (fun _ i _ => N - (intOf i).toNat)
  case atStart => exact ⟨0, none, 0, by omega, rfl, rfl, World.ownsRow_nil _ _ _ _, (fun g hg => by simp [Value.ownBlock] at hg), Below.refl _ _⟩
  case round =>
    obtain ⟨k, A1, cap1, hk, rfl, rfl, ho, hg, hb⟩ := hrel
    have HO := Lib.hid ho
    have HG := Lib.hid hg
    have HB := Lib.hid hb
    by_cases hlt : k < N
    · obtain ⟨f, hfk⟩ : ∃ f, l[k]? = some f := ⟨_, List.getElem?_eq_getElem (by omega)⟩
      have HFK := Lib.hid hfk
      obtain ⟨fb, fo, rfl, hfb, hfc⟩ := HA.out (by omega)
      obtain ⟨c0, c1, c2⟩ := hfc k f hfk
      have d0 := (hb.cell (p := ⟨fb, fo + k * 3, none⟩) hfb).trans c0
      have d1 := (hb.cell (p := ⟨fb, fo + k * 3 + 1, none⟩) hfb).trans c1
      have d2 := (hb.cell (p := ⟨fb, fo + k * 3 + 2, none⟩) hfb).trans c2
      have hlt2 : (k : Int) < (N : Int) := by omega
      have hne : some wr.heap.size ≠ (Value.slice A1 k cap1).ownBlock := fun e => Nat.lt_irrefl _ (row_lt ho e.symm)
      have hk1 : k + 1 ≤ maxLen := by unfold maxLen; omega
      have hk2 : (k + 1) * 24 ≤ 140737488355328 := by omega
      clear hfc c0 c1 c2 hfk ho hg hb
      rcases (show (0 < f.x ∧ max 0 f.x = f.x) ∨ (¬ 0 < f.x ∧ max 0 f.x = 0) by omega) with ⟨hx, hxm⟩ | ⟨hx, hxm⟩
      · rcases (show (0 < f.y ∧ max 0 f.y = f.y) ∨ (¬ 0 < f.y ∧ max 0 f.y = 0) by omega) with ⟨hy, hym⟩ | ⟨hy, hym⟩
        · skip
          have HFC : Hid (fcut n f = ⟨(f.x % n), (f.y % n), cutI f.c⟩) := Lib.hid (by unfold fcut; rw [hxm, hym])
          have htx : f.x.tmod n = f.x % n := Int.tmod_eq_emod_of_nonneg (by omega)
          have hty : f.y.tmod n = f.y % n := Int.tmod_eq_emod_of_nonneg (by omega)
          clear hxm hym
          go_wp2_with fail
          refine AnyE.begin2 (S := fun W => W.cell? ⟨wr.heap.size, 0, none⟩ = some (.int .i64 f.x) ∧ W.cell? ⟨wr.heap.size, 1, none⟩ = some (.int .i64 f.y) ∧ W.cell? ⟨wr.heap.size, 2, none⟩ = some (.int .i64 f.c)) (by kernel_rfl) ⟨by go_simp, by go_simp, by go_simp⟩ (fun hS => ?_)
          have hbd : Below wr.heap.size wr (wr.alloc (.cells #[.int .i64 f.x, .int .i64 f.y, .int .i64 f.c] 45)).drew := ((Below.refl _ _).alloc (Nat.le_refl _) _).drew
          have ho := row_same HO.out (fun g hg => hbd.block g (row_lt HO.out hg))
          generalize (wr.alloc (.cells #[.int .i64 f.x, .int .i64 f.y, .int .i64 f.c] 45)).drew = wd at hbd ho hS ⊢
          refine AnyE.take (i := 0) (oi := ⟨some 18, _, _, _, _, _⟩) (v := .slice A1 k cap1) rfl (by kernel_rfl) (by kernel_rfl) (by kernel_rfl) (by kernel_rfl) (fun _ _ _ h => h) (Or.inl ⟨by rfl, fun W _ => by go_simp⟩) hS ?_
          try simp only [Act.put, List.setIfInBounds_toArray, List.set_cons_zero, List.set_cons_succ]
          refine AnyE.take (i := 1) (oi := ⟨some 19, _, _, _, _, _⟩) (v := .pointer (some ⟨wr.heap.size, 0, none⟩)) rfl (by kernel_rfl) (by kernel_rfl) (by kernel_rfl) (by kernel_rfl) (fun _ _ _ h => h) (Or.inl ⟨by rfl, fun W _ => by go_simp⟩) hS ?_
          try simp only [Act.put, List.setIfInBounds_toArray, List.set_cons_zero, List.set_cons_succ]
          refine AnyE.take (i := 2) (oi := ⟨some 20, _, _, _, _, _⟩) (v := .int .i64 f.x) rfl (by kernel_rfl) (by kernel_rfl) (by kernel_rfl) (by kernel_rfl) (fun _ _ _ h => h) (Or.inl ⟨by rfl, fun W hW => by obtain ⟨a0, a1, a2⟩ := hW; go_simp⟩) hS ?_
          try simp only [Act.put, List.setIfInBounds_toArray, List.set_cons_zero, List.set_cons_succ]
          refine AnyE.take (i := 3) (oi := ⟨some 21, _, _, _, _, _⟩) (v := .int .i64 f.x) rfl (by kernel_rfl) (by kernel_rfl) (by kernel_rfl) (by kernel_rfl) (fun _ _ _ h => h) (Or.inl ⟨by rfl, fun W _ => by go_simp⟩) hS ?_
          try simp only [Act.put, List.setIfInBounds_toArray, List.set_cons_zero, List.set_cons_succ]
          refine AnyE.take (i := 4) (oi := ⟨some 22, _, _, _, _, _⟩) (v := .int .i64 n) rfl (by kernel_rfl) (by kernel_rfl) (by kernel_rfl) (by kernel_rfl) (fun _ _ _ h => h) (Or.inl ⟨by rfl, fun W _ => by go_simp⟩) hS ?_
          try simp only [Act.put, List.setIfInBounds_toArray, List.set_cons_zero, List.set_cons_succ]
          refine AnyE.take (i := 5) (oi := ⟨some 23, _, _, _, _, _⟩) (v := .int .i64 (f.x % n)) rfl (by kernel_rfl) (by kernel_rfl) (by kernel_rfl) (by kernel_rfl) (fun _ _ _ h => h) (Or.inl ⟨by rfl, fun W _ => by go_simp⟩) hS ?_
          try simp only [Act.put, List.setIfInBounds_toArray, List.set_cons_zero, List.set_cons_succ]
          refine AnyE.take (i := 6) (oi := ⟨some 24, _, _, _, _, _⟩) (v := .pointer (some ⟨wr.heap.size, 1, none⟩)) rfl (by kernel_rfl) (by kernel_rfl) (by kernel_rfl) (by kernel_rfl) (fun _ _ _ h => h) (Or.inl ⟨by rfl, fun W _ => by go_simp⟩) hS ?_
          try simp only [Act.put, List.setIfInBounds_toArray, List.set_cons_zero, List.set_cons_succ]
          refine AnyE.take (i := 7) (oi := ⟨some 25, _, _, _, _, _⟩) (v := .int .i64 f.y) rfl (by kernel_rfl) (by kernel_rfl) (by kernel_rfl) (by kernel_rfl) (fun _ _ _ h => h) (Or.inl ⟨by rfl, fun W hW => by obtain ⟨a0, a1, a2⟩ := hW; go_simp⟩) hS ?_
          try simp only [Act.put, List.setIfInBounds_toArray, List.set_cons_zero, List.set_cons_succ]
          refine AnyE.take (i := 8) (oi := ⟨some 26, _, _, _, _, _⟩) (v := .int .i64 f.y) rfl (by kernel_rfl) (by kernel_rfl) (by kernel_rfl) (by kernel_rfl) (fun _ _ _ h => h) (Or.inl ⟨by rfl, fun W _ => by go_simp⟩) hS ?_
          try simp only [Act.put, List.setIfInBounds_toArray, List.set_cons_zero, List.set_cons_succ]
          refine AnyE.take (i := 9) (oi := ⟨some 27, _, _, _, _, _⟩) (v := .int .i64 n) rfl (by kernel_rfl) (by kernel_rfl) (by kernel_rfl) (by kernel_rfl) (fun _ _ _ h => h) (Or.inl ⟨by rfl, fun W _ => by go_simp⟩) hS ?_
          try simp only [Act.put, List.setIfInBounds_toArray, List.set_cons_zero, List.set_cons_succ]
          refine AnyE.take (i := 10) (oi := ⟨some 28, _, _, _, _, _⟩) (v := .int .i64 (f.y % n)) rfl (by kernel_rfl) (by kernel_rfl) (by kernel_rfl) (by kernel_rfl) (fun _ _ _ h => h) (Or.inl ⟨by rfl, fun W _ => by go_simp⟩) hS ?_
          try simp only [Act.put, List.setIfInBounds_toArray, List.set_cons_zero, List.set_cons_succ]
          refine AnyE.take (i := 11) (oi := ⟨some 29, _, _, _, _, _⟩) (v := .pointer (some ⟨wr.heap.size, 2, none⟩)) rfl (by kernel_rfl) (by kernel_rfl) (by kernel_rfl) (by kernel_rfl) (fun _ _ _ h => h) (Or.inl ⟨by rfl, fun W _ => by go_simp⟩) hS ?_
          try simp only [Act.put, List.setIfInBounds_toArray, List.set_cons_zero, List.set_cons_succ]
          refine AnyE.take (i := 12) (oi := ⟨some 30, _, _, _, _, _⟩) (v := .int .i64 f.c) rfl (by kernel_rfl) (by kernel_rfl) (by kernel_rfl) (by kernel_rfl) (fun _ _ _ h => h) (Or.inl ⟨by rfl, fun W hW => by obtain ⟨a0, a1, a2⟩ := hW; go_simp⟩) hS ?_
          try simp only [Act.put, List.setIfInBounds_toArray, List.set_cons_zero, List.set_cons_succ]
          refine AnyE.one (i := 13) (o := ⟨some 31, _, _, _, _, _⟩) (by kernel_rfl) rfl (by rfl) (fun K hK => ?_)
          go_simp
          refine (cut_any f.c _).mono ?_
          rintro e w9 ⟨rfl, rfl⟩
          refine hK.out _ _ (fun _ => hS) ?_
          clear hK K
          try simp only [Act.put, List.setIfInBounds_toArray, List.set_cons_zero, List.set_cons_succ]
          refine AnyE.take (i := 14) (oi := ⟨some 32, _, _, _, _, _⟩) (v := .agg #[.int .i64 (f.x % n), .int .i64 (f.y % n), .int .i64 (cutI f.c)]) rfl (by kernel_rfl) (by kernel_rfl) (by kernel_rfl) (by kernel_rfl) (fun _ _ _ h => h) (Or.inl ⟨by rfl, fun W _ => by go_simp⟩) hS ?_
          try simp only [Act.put, List.setIfInBounds_toArray, List.set_cons_zero, List.set_cons_succ]
          refine AnyE.one (i := 15) (o := ⟨some 33, _, _, _, _, _⟩) (by kernel_rfl) rfl (by rfl) (fun K hK => ?_)
          go_simp
          have hb : Below wd.heap.size wd (wd.alloc (.cells #[.int .i64 (f.x % n), .int .i64 (f.y % n), .int .i64 (cutI f.c)] 45)) := (Below.refl _ _).alloc (Nat.le_refl _) _
          have hS := (show _ ∧ _ ∧ _ from ⟨keepC hS.1 hb, keepC hS.2.1 hb, keepC hS.2.2 hb⟩)
          refine hK.out _ _ (fun _ => hS) ?_
          clear hK K
          try simp only [Act.put, List.setIfInBounds_toArray, List.set_cons_zero, List.set_cons_succ]
          refine AnyE.one (i := 16) (o := ⟨some 34, _, _, _, _, _⟩) (by kernel_rfl) rfl (by rfl) (fun K hK => ?_)
          refine (wp_append_hist (.tmp 18) (.tmp 33) rfl I rfl (row_same ho fun g hg => hb.block g (row_lt ho hg)) rfl (news := [.int .i64 (f.x % n), .int .i64 (f.y % n), .int .i64 (cutI f.c)]) rfl (lit2_at wd 45 [.int .i64 (f.x % n), .int .i64 (f.y % n), .int .i64 (cutI f.c)]) (allOne _ rfl) hk1 hk2 ?_)
          intro A2 cap2 w4 ha
          have hS := (show _ ∧ _ ∧ _ from ⟨ha.grown.cell (a := ⟨wr.heap.size, 0, none⟩) hS.1 hne, ha.grown.cell (a := ⟨wr.heap.size, 1, none⟩) hS.2.1 hne, ha.grown.cell (a := ⟨wr.heap.size, 2, none⟩) hS.2.2 hne⟩)
          refine hK.out _ _ (fun _ => hS) ?_
          clear hK K
          try simp only [Act.put, List.setIfInBounds_toArray, List.set_cons_zero, List.set_cons_succ]
          refine AnyE.one (i := 17) (o := ⟨some 5, _, _, _, _, _⟩) (by kernel_rfl) rfl (by rfl) (fun K hK => ?_)
          go_simp
          refine hK.out _ _ (fun _ => hS) ?_
          clear hK K
          try simp only [Act.put, List.setIfInBounds_toArray, List.set_cons_zero, List.set_cons_succ]
          refine AnyE.done (by kernel_rfl) ?_ _
          have hbw : Below w.heap.size w w4 := (HB.out.trans ((hbd.trans (hb.mono hbd.size)).mono HB.out.size)).grown ha.grown (Nat.le_trans HB.out.size (Nat.le_trans hbd.size hb.size)) (fun g hg => HG.out g hg)
          have hgw : ∀ g, (Value.slice A2 (k + 1) cap2).ownBlock = some g → w.heap.size ≤ g := fun g hg => by
            rcases ha.block with h | h
            · exact HG.out g (h ▸ hg)
            · rw [h] at hg
              cases hg
              exact Nat.le_trans HB.out.size (Nat.le_trans hbd.size hb.size)
          have HW4 := Lib.hid hbw
          have HG4 := Lib.hid hgw
          have HO4 := Lib.hid ha.own
          clear hS ha hb hbd ho hbw hgw
          go_wp2_with fail
          go_roundw
          case rel =>
            refine ⟨k + 1, A2, cap2, by omega, by go_num, rfl, ?_, HG4.out, HW4.out⟩
            rw [List.take_add_one, HFK.out]
            simp only [Option.toList, List.map_append, List.map_cons, List.map_nil, factCells_append]
            rw [show factCells [fcut n f] = [.int .i64 (f.x % n), .int .i64 (f.y % n), .int .i64 (cutI f.c)] from by rw [HFC.out]; rfl]
            exact HO4.out
          case measure => simp [intOf]; omega
        · skip
          have HFC : Hid (fcut n f = ⟨(f.x % n), 0, cutI f.c⟩) := Lib.hid (by unfold fcut; rw [hxm, hym]; simp)
          have htx : f.x.tmod n = f.x % n := Int.tmod_eq_emod_of_nonneg (by omega)
          have hy2 : (0 < f.y) = False := by simp; omega
          clear hxm hym
          go_wp2_with fail
          refine AnyE.begin2 (S := fun W => W.cell? ⟨wr.heap.size, 0, none⟩ = some (.int .i64 f.x) ∧ W.cell? ⟨wr.heap.size, 1, none⟩ = some (.int .i64 f.y) ∧ W.cell? ⟨wr.heap.size, 2, none⟩ = some (.int .i64 f.c)) (by kernel_rfl) ⟨by go_simp, by go_simp, by go_simp⟩ (fun hS => ?_)
          have hbd : Below wr.heap.size wr (wr.alloc (.cells #[.int .i64 f.x, .int .i64 f.y, .int .i64 f.c] 45)).drew := ((Below.refl _ _).alloc (Nat.le_refl _) _).drew
          have ho := row_same HO.out (fun g hg => hbd.block g (row_lt HO.out hg))
          generalize (wr.alloc (.cells #[.int .i64 f.x, .int .i64 f.y, .int .i64 f.c] 45)).drew = wd at hbd ho hS ⊢
          refine AnyE.take (i := 0) (oi := ⟨some 18, _, _, _, _, _⟩) (v := .slice A1 k cap1) rfl (by kernel_rfl) (by kernel_rfl) (by kernel_rfl) (by kernel_rfl) (fun _ _ _ h => h) (Or.inl ⟨by rfl, fun W _ => by go_simp⟩) hS ?_
          try simp only [Act.put, List.setIfInBounds_toArray, List.set_cons_zero, List.set_cons_succ]
          refine AnyE.take (i := 1) (oi := ⟨some 19, _, _, _, _, _⟩) (v := .pointer (some ⟨wr.heap.size, 0, none⟩)) rfl (by kernel_rfl) (by kernel_rfl) (by kernel_rfl) (by kernel_rfl) (fun _ _ _ h => h) (Or.inl ⟨by rfl, fun W _ => by go_simp⟩) hS ?_
          try simp only [Act.put, List.setIfInBounds_toArray, List.set_cons_zero, List.set_cons_succ]
          refine AnyE.take (i := 2) (oi := ⟨some 20, _, _, _, _, _⟩) (v := .int .i64 f.x) rfl (by kernel_rfl) (by kernel_rfl) (by kernel_rfl) (by kernel_rfl) (fun _ _ _ h => h) (Or.inl ⟨by rfl, fun W hW => by obtain ⟨a0, a1, a2⟩ := hW; go_simp⟩) hS ?_
          try simp only [Act.put, List.setIfInBounds_toArray, List.set_cons_zero, List.set_cons_succ]
          refine AnyE.take (i := 3) (oi := ⟨some 21, _, _, _, _, _⟩) (v := .int .i64 f.x) rfl (by kernel_rfl) (by kernel_rfl) (by kernel_rfl) (by kernel_rfl) (fun _ _ _ h => h) (Or.inl ⟨by rfl, fun W _ => by go_simp⟩) hS ?_
          try simp only [Act.put, List.setIfInBounds_toArray, List.set_cons_zero, List.set_cons_succ]
          refine AnyE.take (i := 4) (oi := ⟨some 22, _, _, _, _, _⟩) (v := .int .i64 n) rfl (by kernel_rfl) (by kernel_rfl) (by kernel_rfl) (by kernel_rfl) (fun _ _ _ h => h) (Or.inl ⟨by rfl, fun W _ => by go_simp⟩) hS ?_
          try simp only [Act.put, List.setIfInBounds_toArray, List.set_cons_zero, List.set_cons_succ]
          refine AnyE.take (i := 5) (oi := ⟨some 23, _, _, _, _, _⟩) (v := .int .i64 (f.x % n)) rfl (by kernel_rfl) (by kernel_rfl) (by kernel_rfl) (by kernel_rfl) (fun _ _ _ h => h) (Or.inl ⟨by rfl, fun W _ => by go_simp⟩) hS ?_
          try simp only [Act.put, List.setIfInBounds_toArray, List.set_cons_zero, List.set_cons_succ]
          refine AnyE.take (i := 6) (oi := ⟨some 24, _, _, _, _, _⟩) (v := .pointer (some ⟨wr.heap.size, 1, none⟩)) rfl (by kernel_rfl) (by kernel_rfl) (by kernel_rfl) (by kernel_rfl) (fun _ _ _ h => h) (Or.inl ⟨by rfl, fun W _ => by go_simp⟩) hS ?_
          try simp only [Act.put, List.setIfInBounds_toArray, List.set_cons_zero, List.set_cons_succ]
          refine AnyE.take (i := 7) (oi := ⟨some 25, _, _, _, _, _⟩) (v := .int .i64 f.y) rfl (by kernel_rfl) (by kernel_rfl) (by kernel_rfl) (by kernel_rfl) (fun _ _ _ h => h) (Or.inl ⟨by rfl, fun W hW => by obtain ⟨a0, a1, a2⟩ := hW; go_simp⟩) hS ?_
          try simp only [Act.put, List.setIfInBounds_toArray, List.set_cons_zero, List.set_cons_succ]
          refine AnyE.take (i := 8) (oi := ⟨some 26, _, _, _, _, _⟩) (v := .int .i64 0) rfl (by kernel_rfl) (by kernel_rfl) (by kernel_rfl) (by kernel_rfl) (fun _ _ _ h => h) (Or.inl ⟨by rfl, fun W _ => by go_simp⟩) hS ?_
          try simp only [Act.put, List.setIfInBounds_toArray, List.set_cons_zero, List.set_cons_succ]
          refine AnyE.take (i := 9) (oi := ⟨some 27, _, _, _, _, _⟩) (v := .int .i64 n) rfl (by kernel_rfl) (by kernel_rfl) (by kernel_rfl) (by kernel_rfl) (fun _ _ _ h => h) (Or.inl ⟨by rfl, fun W _ => by go_simp⟩) hS ?_
          try simp only [Act.put, List.setIfInBounds_toArray, List.set_cons_zero, List.set_cons_succ]
          refine AnyE.take (i := 10) (oi := ⟨some 28, _, _, _, _, _⟩) (v := .int .i64 0) rfl (by kernel_rfl) (by kernel_rfl) (by kernel_rfl) (by kernel_rfl) (fun _ _ _ h => h) (Or.inl ⟨by rfl, fun W _ => by go_simp⟩) hS ?_
          try simp only [Act.put, List.setIfInBounds_toArray, List.set_cons_zero, List.set_cons_succ]
          refine AnyE.take (i := 11) (oi := ⟨some 29, _, _, _, _, _⟩) (v := .pointer (some ⟨wr.heap.size, 2, none⟩)) rfl (by kernel_rfl) (by kernel_rfl) (by kernel_rfl) (by kernel_rfl) (fun _ _ _ h => h) (Or.inl ⟨by rfl, fun W _ => by go_simp⟩) hS ?_
          try simp only [Act.put, List.setIfInBounds_toArray, List.set_cons_zero, List.set_cons_succ]
          refine AnyE.take (i := 12) (oi := ⟨some 30, _, _, _, _, _⟩) (v := .int .i64 f.c) rfl (by kernel_rfl) (by kernel_rfl) (by kernel_rfl) (by kernel_rfl) (fun _ _ _ h => h) (Or.inl ⟨by rfl, fun W hW => by obtain ⟨a0, a1, a2⟩ := hW; go_simp⟩) hS ?_
          try simp only [Act.put, List.setIfInBounds_toArray, List.set_cons_zero, List.set_cons_succ]
          refine AnyE.one (i := 13) (o := ⟨some 31, _, _, _, _, _⟩) (by kernel_rfl) rfl (by rfl) (fun K hK => ?_)
          go_simp
          refine (cut_any f.c _).mono ?_
          rintro e w9 ⟨rfl, rfl⟩
          refine hK.out _ _ (fun _ => hS) ?_
          clear hK K
          try simp only [Act.put, List.setIfInBounds_toArray, List.set_cons_zero, List.set_cons_succ]
          refine AnyE.take (i := 14) (oi := ⟨some 32, _, _, _, _, _⟩) (v := .agg #[.int .i64 (f.x % n), .int .i64 0, .int .i64 (cutI f.c)]) rfl (by kernel_rfl) (by kernel_rfl) (by kernel_rfl) (by kernel_rfl) (fun _ _ _ h => h) (Or.inl ⟨by rfl, fun W _ => by go_simp⟩) hS ?_
          try simp only [Act.put, List.setIfInBounds_toArray, List.set_cons_zero, List.set_cons_succ]
          refine AnyE.one (i := 15) (o := ⟨some 33, _, _, _, _, _⟩) (by kernel_rfl) rfl (by rfl) (fun K hK => ?_)
          go_simp
          have hb : Below wd.heap.size wd (wd.alloc (.cells #[.int .i64 (f.x % n), .int .i64 0, .int .i64 (cutI f.c)] 45)) := (Below.refl _ _).alloc (Nat.le_refl _) _
          have hS := (show _ ∧ _ ∧ _ from ⟨keepC hS.1 hb, keepC hS.2.1 hb, keepC hS.2.2 hb⟩)
          refine hK.out _ _ (fun _ => hS) ?_
          clear hK K
          try simp only [Act.put, List.setIfInBounds_toArray, List.set_cons_zero, List.set_cons_succ]
          refine AnyE.one (i := 16) (o := ⟨some 34, _, _, _, _, _⟩) (by kernel_rfl) rfl (by rfl) (fun K hK => ?_)
          refine (wp_append_hist (.tmp 18) (.tmp 33) rfl I rfl (row_same ho fun g hg => hb.block g (row_lt ho hg)) rfl (news := [.int .i64 (f.x % n), .int .i64 0, .int .i64 (cutI f.c)]) rfl (lit2_at wd 45 [.int .i64 (f.x % n), .int .i64 0, .int .i64 (cutI f.c)]) (allOne _ rfl) hk1 hk2 ?_)
          intro A2 cap2 w4 ha
          have hS := (show _ ∧ _ ∧ _ from ⟨ha.grown.cell (a := ⟨wr.heap.size, 0, none⟩) hS.1 hne, ha.grown.cell (a := ⟨wr.heap.size, 1, none⟩) hS.2.1 hne, ha.grown.cell (a := ⟨wr.heap.size, 2, none⟩) hS.2.2 hne⟩)
          refine hK.out _ _ (fun _ => hS) ?_
          clear hK K
          try simp only [Act.put, List.setIfInBounds_toArray, List.set_cons_zero, List.set_cons_succ]
          refine AnyE.one (i := 17) (o := ⟨some 5, _, _, _, _, _⟩) (by kernel_rfl) rfl (by rfl) (fun K hK => ?_)
          go_simp
          refine hK.out _ _ (fun _ => hS) ?_
          clear hK K
          try simp only [Act.put, List.setIfInBounds_toArray, List.set_cons_zero, List.set_cons_succ]
          refine AnyE.done (by kernel_rfl) ?_ _
          have hbw : Below w.heap.size w w4 := (HB.out.trans ((hbd.trans (hb.mono hbd.size)).mono HB.out.size)).grown ha.grown (Nat.le_trans HB.out.size (Nat.le_trans hbd.size hb.size)) (fun g hg => HG.out g hg)
          have hgw : ∀ g, (Value.slice A2 (k + 1) cap2).ownBlock = some g → w.heap.size ≤ g := fun g hg => by
            rcases ha.block with h | h
            · exact HG.out g (h ▸ hg)
            · rw [h] at hg
              cases hg
              exact Nat.le_trans HB.out.size (Nat.le_trans hbd.size hb.size)
          have HW4 := Lib.hid hbw
          have HG4 := Lib.hid hgw
          have HO4 := Lib.hid ha.own
          clear hS ha hb hbd ho hbw hgw
          go_wp2_with fail
          go_roundw
          case rel =>
            refine ⟨k + 1, A2, cap2, by omega, by go_num, rfl, ?_, HG4.out, HW4.out⟩
            rw [List.take_add_one, HFK.out]
            simp only [Option.toList, List.map_append, List.map_cons, List.map_nil, factCells_append]
            rw [show factCells [fcut n f] = [.int .i64 (f.x % n), .int .i64 0, .int .i64 (cutI f.c)] from by rw [HFC.out]; rfl]
            exact HO4.out
          case measure => simp [intOf]; omega
      · rcases (show (0 < f.y ∧ max 0 f.y = f.y) ∨ (¬ 0 < f.y ∧ max 0 f.y = 0) by omega) with ⟨hy, hym⟩ | ⟨hy, hym⟩
        · skip
          have HFC : Hid (fcut n f = ⟨0, (f.y % n), cutI f.c⟩) := Lib.hid (by unfold fcut; rw [hxm, hym]; simp)
          have hx2 : (0 < f.x) = False := by simp; omega
          have hty : f.y.tmod n = f.y % n := Int.tmod_eq_emod_of_nonneg (by omega)
          clear hxm hym
          go_wp2_with fail
          refine AnyE.begin2 (S := fun W => W.cell? ⟨wr.heap.size, 0, none⟩ = some (.int .i64 f.x) ∧ W.cell? ⟨wr.heap.size, 1, none⟩ = some (.int .i64 f.y) ∧ W.cell? ⟨wr.heap.size, 2, none⟩ = some (.int .i64 f.c)) (by kernel_rfl) ⟨by go_simp, by go_simp, by go_simp⟩ (fun hS => ?_)
          have hbd : Below wr.heap.size wr (wr.alloc (.cells #[.int .i64 f.x, .int .i64 f.y, .int .i64 f.c] 45)).drew := ((Below.refl _ _).alloc (Nat.le_refl _) _).drew
          have ho := row_same HO.out (fun g hg => hbd.block g (row_lt HO.out hg))
          generalize (wr.alloc (.cells #[.int .i64 f.x, .int .i64 f.y, .int .i64 f.c] 45)).drew = wd at hbd ho hS ⊢
          refine AnyE.take (i := 0) (oi := ⟨some 18, _, _, _, _, _⟩) (v := .slice A1 k cap1) rfl (by kernel_rfl) (by kernel_rfl) (by kernel_rfl) (by kernel_rfl) (fun _ _ _ h => h) (Or.inl ⟨by rfl, fun W _ => by go_simp⟩) hS ?_
          try simp only [Act.put, List.setIfInBounds_toArray, List.set_cons_zero, List.set_cons_succ]
          refine AnyE.take (i := 1) (oi := ⟨some 19, _, _, _, _, _⟩) (v := .pointer (some ⟨wr.heap.size, 0, none⟩)) rfl (by kernel_rfl) (by kernel_rfl) (by kernel_rfl) (by kernel_rfl) (fun _ _ _ h => h) (Or.inl ⟨by rfl, fun W _ => by go_simp⟩) hS ?_
          try simp only [Act.put, List.setIfInBounds_toArray, List.set_cons_zero, List.set_cons_succ]
          refine AnyE.take (i := 2) (oi := ⟨some 20, _, _, _, _, _⟩) (v := .int .i64 f.x) rfl (by kernel_rfl) (by kernel_rfl) (by kernel_rfl) (by kernel_rfl) (fun _ _ _ h => h) (Or.inl ⟨by rfl, fun W hW => by obtain ⟨a0, a1, a2⟩ := hW; go_simp⟩) hS ?_
          try simp only [Act.put, List.setIfInBounds_toArray, List.set_cons_zero, List.set_cons_succ]
          refine AnyE.take (i := 3) (oi := ⟨some 21, _, _, _, _, _⟩) (v := .int .i64 0) rfl (by kernel_rfl) (by kernel_rfl) (by kernel_rfl) (by kernel_rfl) (fun _ _ _ h => h) (Or.inl ⟨by rfl, fun W _ => by go_simp⟩) hS ?_
          try simp only [Act.put, List.setIfInBounds_toArray, List.set_cons_zero, List.set_cons_succ]
          refine AnyE.take (i := 4) (oi := ⟨some 22, _, _, _, _, _⟩) (v := .int .i64 n) rfl (by kernel_rfl) (by kernel_rfl) (by kernel_rfl) (by kernel_rfl) (fun _ _ _ h => h) (Or.inl ⟨by rfl, fun W _ => by go_simp⟩) hS ?_
          try simp only [Act.put, List.setIfInBounds_toArray, List.set_cons_zero, List.set_cons_succ]
          refine AnyE.take (i := 5) (oi := ⟨some 23, _, _, _, _, _⟩) (v := .int .i64 0) rfl (by kernel_rfl) (by kernel_rfl) (by kernel_rfl) (by kernel_rfl) (fun _ _ _ h => h) (Or.inl ⟨by rfl, fun W _ => by go_simp⟩) hS ?_
          try simp only [Act.put, List.setIfInBounds_toArray, List.set_cons_zero, List.set_cons_succ]
          refine AnyE.take (i := 6) (oi := ⟨some 24, _, _, _, _, _⟩) (v := .pointer (some ⟨wr.heap.size, 1, none⟩)) rfl (by kernel_rfl) (by kernel_rfl) (by kernel_rfl) (by kernel_rfl) (fun _ _ _ h => h) (Or.inl ⟨by rfl, fun W _ => by go_simp⟩) hS ?_
          try simp only [Act.put, List.setIfInBounds_toArray, List.set_cons_zero, List.set_cons_succ]
          refine AnyE.take (i := 7) (oi := ⟨some 25, _, _, _, _, _⟩) (v := .int .i64 f.y) rfl (by kernel_rfl) (by kernel_rfl) (by kernel_rfl) (by kernel_rfl) (fun _ _ _ h => h) (Or.inl ⟨by rfl, fun W hW => by obtain ⟨a0, a1, a2⟩ := hW; go_simp⟩) hS ?_
          try simp only [Act.put, List.setIfInBounds_toArray, List.set_cons_zero, List.set_cons_succ]
          refine AnyE.take (i := 8) (oi := ⟨some 26, _, _, _, _, _⟩) (v := .int .i64 f.y) rfl (by kernel_rfl) (by kernel_rfl) (by kernel_rfl) (by kernel_rfl) (fun _ _ _ h => h) (Or.inl ⟨by rfl, fun W _ => by go_simp⟩) hS ?_
          try simp only [Act.put, List.setIfInBounds_toArray, List.set_cons_zero, List.set_cons_succ]
          refine AnyE.take (i := 9) (oi := ⟨some 27, _, _, _, _, _⟩) (v := .int .i64 n) rfl (by kernel_rfl) (by kernel_rfl) (by kernel_rfl) (by kernel_rfl) (fun _ _ _ h => h) (Or.inl ⟨by rfl, fun W _ => by go_simp⟩) hS ?_
          try simp only [Act.put, List.setIfInBounds_toArray, List.set_cons_zero, List.set_cons_succ]
          refine AnyE.take (i := 10) (oi := ⟨some 28, _, _, _, _, _⟩) (v := .int .i64 (f.y % n)) rfl (by kernel_rfl) (by kernel_rfl) (by kernel_rfl) (by kernel_rfl) (fun _ _ _ h => h) (Or.inl ⟨by rfl, fun W _ => by go_simp⟩) hS ?_
          try simp only [Act.put, List.setIfInBounds_toArray, List.set_cons_zero, List.set_cons_succ]
          refine AnyE.take (i := 11) (oi := ⟨some 29, _, _, _, _, _⟩) (v := .pointer (some ⟨wr.heap.size, 2, none⟩)) rfl (by kernel_rfl) (by kernel_rfl) (by kernel_rfl) (by kernel_rfl) (fun _ _ _ h => h) (Or.inl ⟨by rfl, fun W _ => by go_simp⟩) hS ?_
          try simp only [Act.put, List.setIfInBounds_toArray, List.set_cons_zero, List.set_cons_succ]
          refine AnyE.take (i := 12) (oi := ⟨some 30, _, _, _, _, _⟩) (v := .int .i64 f.c) rfl (by kernel_rfl) (by kernel_rfl) (by kernel_rfl) (by kernel_rfl) (fun _ _ _ h => h) (Or.inl ⟨by rfl, fun W hW => by obtain ⟨a0, a1, a2⟩ := hW; go_simp⟩) hS ?_
          try simp only [Act.put, List.setIfInBounds_toArray, List.set_cons_zero, List.set_cons_succ]
          refine AnyE.one (i := 13) (o := ⟨some 31, _, _, _, _, _⟩) (by kernel_rfl) rfl (by rfl) (fun K hK => ?_)
          go_simp
          refine (cut_any f.c _).mono ?_
          rintro e w9 ⟨rfl, rfl⟩
          refine hK.out _ _ (fun _ => hS) ?_
          clear hK K
          try simp only [Act.put, List.setIfInBounds_toArray, List.set_cons_zero, List.set_cons_succ]
          refine AnyE.take (i := 14) (oi := ⟨some 32, _, _, _, _, _⟩) (v := .agg #[.int .i64 0, .int .i64 (f.y % n), .int .i64 (cutI f.c)]) rfl (by kernel_rfl) (by kernel_rfl) (by kernel_rfl) (by kernel_rfl) (fun _ _ _ h => h) (Or.inl ⟨by rfl, fun W _ => by go_simp⟩) hS ?_
          try simp only [Act.put, List.setIfInBounds_toArray, List.set_cons_zero, List.set_cons_succ]
          refine AnyE.one (i := 15) (o := ⟨some 33, _, _, _, _, _⟩) (by kernel_rfl) rfl (by rfl) (fun K hK => ?_)
          go_simp
          have hb : Below wd.heap.size wd (wd.alloc (.cells #[.int .i64 0, .int .i64 (f.y % n), .int .i64 (cutI f.c)] 45)) := (Below.refl _ _).alloc (Nat.le_refl _) _
          have hS := (show _ ∧ _ ∧ _ from ⟨keepC hS.1 hb, keepC hS.2.1 hb, keepC hS.2.2 hb⟩)
          refine hK.out _ _ (fun _ => hS) ?_
          clear hK K
          try simp only [Act.put, List.setIfInBounds_toArray, List.set_cons_zero, List.set_cons_succ]
          refine AnyE.one (i := 16) (o := ⟨some 34, _, _, _, _, _⟩) (by kernel_rfl) rfl (by rfl) (fun K hK => ?_)
          refine (wp_append_hist (.tmp 18) (.tmp 33) rfl I rfl (row_same ho fun g hg => hb.block g (row_lt ho hg)) rfl (news := [.int .i64 0, .int .i64 (f.y % n), .int .i64 (cutI f.c)]) rfl (lit2_at wd 45 [.int .i64 0, .int .i64 (f.y % n), .int .i64 (cutI f.c)]) (allOne _ rfl) hk1 hk2 ?_)
          intro A2 cap2 w4 ha
          have hS := (show _ ∧ _ ∧ _ from ⟨ha.grown.cell (a := ⟨wr.heap.size, 0, none⟩) hS.1 hne, ha.grown.cell (a := ⟨wr.heap.size, 1, none⟩) hS.2.1 hne, ha.grown.cell (a := ⟨wr.heap.size, 2, none⟩) hS.2.2 hne⟩)
          refine hK.out _ _ (fun _ => hS) ?_
          clear hK K
          try simp only [Act.put, List.setIfInBounds_toArray, List.set_cons_zero, List.set_cons_succ]
          refine AnyE.one (i := 17) (o := ⟨some 5, _, _, _, _, _⟩) (by kernel_rfl) rfl (by rfl) (fun K hK => ?_)
          go_simp
          refine hK.out _ _ (fun _ => hS) ?_
          clear hK K
          try simp only [Act.put, List.setIfInBounds_toArray, List.set_cons_zero, List.set_cons_succ]
          refine AnyE.done (by kernel_rfl) ?_ _
          have hbw : Below w.heap.size w w4 := (HB.out.trans ((hbd.trans (hb.mono hbd.size)).mono HB.out.size)).grown ha.grown (Nat.le_trans HB.out.size (Nat.le_trans hbd.size hb.size)) (fun g hg => HG.out g hg)
          have hgw : ∀ g, (Value.slice A2 (k + 1) cap2).ownBlock = some g → w.heap.size ≤ g := fun g hg => by
            rcases ha.block with h | h
            · exact HG.out g (h ▸ hg)
            · rw [h] at hg
              cases hg
              exact Nat.le_trans HB.out.size (Nat.le_trans hbd.size hb.size)
          have HW4 := Lib.hid hbw
          have HG4 := Lib.hid hgw
          have HO4 := Lib.hid ha.own
          clear hS ha hb hbd ho hbw hgw
          go_wp2_with fail
          go_roundw
          case rel =>
            refine ⟨k + 1, A2, cap2, by omega, by go_num, rfl, ?_, HG4.out, HW4.out⟩
            rw [List.take_add_one, HFK.out]
            simp only [Option.toList, List.map_append, List.map_cons, List.map_nil, factCells_append]
            rw [show factCells [fcut n f] = [.int .i64 0, .int .i64 (f.y % n), .int .i64 (cutI f.c)] from by rw [HFC.out]; rfl]
            exact HO4.out
          case measure => simp [intOf]; omega
        · skip
          have HFC : Hid (fcut n f = ⟨0, 0, cutI f.c⟩) := Lib.hid (by unfold fcut; rw [hxm, hym]; simp)
          have hx2 : (0 < f.x) = False := by simp; omega
          have hy2 : (0 < f.y) = False := by simp; omega
          clear hxm hym
          go_wp2_with fail
          refine AnyE.begin2 (S := fun W => W.cell? ⟨wr.heap.size, 0, none⟩ = some (.int .i64 f.x) ∧ W.cell? ⟨wr.heap.size, 1, none⟩ = some (.int .i64 f.y) ∧ W.cell? ⟨wr.heap.size, 2, none⟩ = some (.int .i64 f.c)) (by kernel_rfl) ⟨by go_simp, by go_simp, by go_simp⟩ (fun hS => ?_)
          have hbd : Below wr.heap.size wr (wr.alloc (.cells #[.int .i64 f.x, .int .i64 f.y, .int .i64 f.c] 45)).drew := ((Below.refl _ _).alloc (Nat.le_refl _) _).drew
          have ho := row_same HO.out (fun g hg => hbd.block g (row_lt HO.out hg))
          generalize (wr.alloc (.cells #[.int .i64 f.x, .int .i64 f.y, .int .i64 f.c] 45)).drew = wd at hbd ho hS ⊢
          refine AnyE.take (i := 0) (oi := ⟨some 18, _, _, _, _, _⟩) (v := .slice A1 k cap1) rfl (by kernel_rfl) (by kernel_rfl) (by kernel_rfl) (by kernel_rfl) (fun _ _ _ h => h) (Or.inl ⟨by rfl, fun W _ => by go_simp⟩) hS ?_
          try simp only [Act.put, List.setIfInBounds_toArray, List.set_cons_zero, List.set_cons_succ]
          refine AnyE.take (i := 1) (oi := ⟨some 19, _, _, _, _, _⟩) (v := .pointer (some ⟨wr.heap.size, 0, none⟩)) rfl (by kernel_rfl) (by kernel_rfl) (by kernel_rfl) (by kernel_rfl) (fun _ _ _ h => h) (Or.inl ⟨by rfl, fun W _ => by go_simp⟩) hS ?_
          try simp only [Act.put, List.setIfInBounds_toArray, List.set_cons_zero, List.set_cons_succ]
          refine AnyE.take (i := 2) (oi := ⟨some 20, _, _, _, _, _⟩) (v := .int .i64 f.x) rfl (by kernel_rfl) (by kernel_rfl) (by kernel_rfl) (by kernel_rfl) (fun _ _ _ h => h) (Or.inl ⟨by rfl, fun W hW => by obtain ⟨a0, a1, a2⟩ := hW; go_simp⟩) hS ?_
          try simp only [Act.put, List.setIfInBounds_toArray, List.set_cons_zero, List.set_cons_succ]
          refine AnyE.take (i := 3) (oi := ⟨some 21, _, _, _, _, _⟩) (v := .int .i64 0) rfl (by kernel_rfl) (by kernel_rfl) (by kernel_rfl) (by kernel_rfl) (fun _ _ _ h => h) (Or.inl ⟨by rfl, fun W _ => by go_simp⟩) hS ?_
          try simp only [Act.put, List.setIfInBounds_toArray, List.set_cons_zero, List.set_cons_succ]
          refine AnyE.take (i := 4) (oi := ⟨some 22, _, _, _, _, _⟩) (v := .int .i64 n) rfl (by kernel_rfl) (by kernel_rfl) (by kernel_rfl) (by kernel_rfl) (fun _ _ _ h => h) (Or.inl ⟨by rfl, fun W _ => by go_simp⟩) hS ?_
          try simp only [Act.put, List.setIfInBounds_toArray, List.set_cons_zero, List.set_cons_succ]
          refine AnyE.take (i := 5) (oi := ⟨some 23, _, _, _, _, _⟩) (v := .int .i64 0) rfl (by kernel_rfl) (by kernel_rfl) (by kernel_rfl) (by kernel_rfl) (fun _ _ _ h => h) (Or.inl ⟨by rfl, fun W _ => by go_simp⟩) hS ?_
          try simp only [Act.put, List.setIfInBounds_toArray, List.set_cons_zero, List.set_cons_succ]
          refine AnyE.take (i := 6) (oi := ⟨some 24, _, _, _, _, _⟩) (v := .pointer (some ⟨wr.heap.size, 1, none⟩)) rfl (by kernel_rfl) (by kernel_rfl) (by kernel_rfl) (by kernel_rfl) (fun _ _ _ h => h) (Or.inl ⟨by rfl, fun W _ => by go_simp⟩) hS ?_
          try simp only [Act.put, List.setIfInBounds_toArray, List.set_cons_zero, List.set_cons_succ]
          refine AnyE.take (i := 7) (oi := ⟨some 25, _, _, _, _, _⟩) (v := .int .i64 f.y) rfl (by kernel_rfl) (by kernel_rfl) (by kernel_rfl) (by kernel_rfl) (fun _ _ _ h => h) (Or.inl ⟨by rfl, fun W hW => by obtain ⟨a0, a1, a2⟩ := hW; go_simp⟩) hS ?_
          try simp only [Act.put, List.setIfInBounds_toArray, List.set_cons_zero, List.set_cons_succ]
          refine AnyE.take (i := 8) (oi := ⟨some 26, _, _, _, _, _⟩) (v := .int .i64 0) rfl (by kernel_rfl) (by kernel_rfl) (by kernel_rfl) (by kernel_rfl) (fun _ _ _ h => h) (Or.inl ⟨by rfl, fun W _ => by go_simp⟩) hS ?_
          try simp only [Act.put, List.setIfInBounds_toArray, List.set_cons_zero, List.set_cons_succ]
          refine AnyE.take (i := 9) (oi := ⟨some 27, _, _, _, _, _⟩) (v := .int .i64 n) rfl (by kernel_rfl) (by kernel_rfl) (by kernel_rfl) (by kernel_rfl) (fun _ _ _ h => h) (Or.inl ⟨by rfl, fun W _ => by go_simp⟩) hS ?_
          try simp only [Act.put, List.setIfInBounds_toArray, List.set_cons_zero, List.set_cons_succ]
          refine AnyE.take (i := 10) (oi := ⟨some 28, _, _, _, _, _⟩) (v := .int .i64 0) rfl (by kernel_rfl) (by kernel_rfl) (by kernel_rfl) (by kernel_rfl) (fun _ _ _ h => h) (Or.inl ⟨by rfl, fun W _ => by go_simp⟩) hS ?_
          try simp only [Act.put, List.setIfInBounds_toArray, List.set_cons_zero, List.set_cons_succ]
          refine AnyE.take (i := 11) (oi := ⟨some 29, _, _, _, _, _⟩) (v := .pointer (some ⟨wr.heap.size, 2, none⟩)) rfl (by kernel_rfl) (by kernel_rfl) (by kernel_rfl) (by kernel_rfl) (fun _ _ _ h => h) (Or.inl ⟨by rfl, fun W _ => by go_simp⟩) hS ?_
          try simp only [Act.put, List.setIfInBounds_toArray, List.set_cons_zero, List.set_cons_succ]
          refine AnyE.take (i := 12) (oi := ⟨some 30, _, _, _, _, _⟩) (v := .int .i64 f.c) rfl (by kernel_rfl) (by kernel_rfl) (by kernel_rfl) (by kernel_rfl) (fun _ _ _ h => h) (Or.inl ⟨by rfl, fun W hW => by obtain ⟨a0, a1, a2⟩ := hW; go_simp⟩) hS ?_
          try simp only [Act.put, List.setIfInBounds_toArray, List.set_cons_zero, List.set_cons_succ]
          refine AnyE.one (i := 13) (o := ⟨some 31, _, _, _, _, _⟩) (by kernel_rfl) rfl (by rfl) (fun K hK => ?_)
          go_simp
          refine (cut_any f.c _).mono ?_
          rintro e w9 ⟨rfl, rfl⟩
          refine hK.out _ _ (fun _ => hS) ?_
          clear hK K
          try simp only [Act.put, List.setIfInBounds_toArray, List.set_cons_zero, List.set_cons_succ]
          refine AnyE.take (i := 14) (oi := ⟨some 32, _, _, _, _, _⟩) (v := .agg #[.int .i64 0, .int .i64 0, .int .i64 (cutI f.c)]) rfl (by kernel_rfl) (by kernel_rfl) (by kernel_rfl) (by kernel_rfl) (fun _ _ _ h => h) (Or.inl ⟨by rfl, fun W _ => by go_simp⟩) hS ?_
          try simp only [Act.put, List.setIfInBounds_toArray, List.set_cons_zero, List.set_cons_succ]
          refine AnyE.one (i := 15) (o := ⟨some 33, _, _, _, _, _⟩) (by kernel_rfl) rfl (by rfl) (fun K hK => ?_)
          go_simp
          have hb : Below wd.heap.size wd (wd.alloc (.cells #[.int .i64 0, .int .i64 0, .int .i64 (cutI f.c)] 45)) := (Below.refl _ _).alloc (Nat.le_refl _) _
          have hS := (show _ ∧ _ ∧ _ from ⟨keepC hS.1 hb, keepC hS.2.1 hb, keepC hS.2.2 hb⟩)
          refine hK.out _ _ (fun _ => hS) ?_
          clear hK K
          try simp only [Act.put, List.setIfInBounds_toArray, List.set_cons_zero, List.set_cons_succ]
          refine AnyE.one (i := 16) (o := ⟨some 34, _, _, _, _, _⟩) (by kernel_rfl) rfl (by rfl) (fun K hK => ?_)
          refine (wp_append_hist (.tmp 18) (.tmp 33) rfl I rfl (row_same ho fun g hg => hb.block g (row_lt ho hg)) rfl (news := [.int .i64 0, .int .i64 0, .int .i64 (cutI f.c)]) rfl (lit2_at wd 45 [.int .i64 0, .int .i64 0, .int .i64 (cutI f.c)]) (allOne _ rfl) hk1 hk2 ?_)
          intro A2 cap2 w4 ha
          have hS := (show _ ∧ _ ∧ _ from ⟨ha.grown.cell (a := ⟨wr.heap.size, 0, none⟩) hS.1 hne, ha.grown.cell (a := ⟨wr.heap.size, 1, none⟩) hS.2.1 hne, ha.grown.cell (a := ⟨wr.heap.size, 2, none⟩) hS.2.2 hne⟩)
          refine hK.out _ _ (fun _ => hS) ?_
          clear hK K
          try simp only [Act.put, List.setIfInBounds_toArray, List.set_cons_zero, List.set_cons_succ]
          refine AnyE.one (i := 17) (o := ⟨some 5, _, _, _, _, _⟩) (by kernel_rfl) rfl (by rfl) (fun K hK => ?_)
          go_simp
          refine hK.out _ _ (fun _ => hS) ?_
          clear hK K
          try simp only [Act.put, List.setIfInBounds_toArray, List.set_cons_zero, List.set_cons_succ]
          refine AnyE.done (by kernel_rfl) ?_ _
          have hbw : Below w.heap.size w w4 := (HB.out.trans ((hbd.trans (hb.mono hbd.size)).mono HB.out.size)).grown ha.grown (Nat.le_trans HB.out.size (Nat.le_trans hbd.size hb.size)) (fun g hg => HG.out g hg)
          have hgw : ∀ g, (Value.slice A2 (k + 1) cap2).ownBlock = some g → w.heap.size ≤ g := fun g hg => by
            rcases ha.block with h | h
            · exact HG.out g (h ▸ hg)
            · rw [h] at hg
              cases hg
              exact Nat.le_trans HB.out.size (Nat.le_trans hbd.size hb.size)
          have HW4 := Lib.hid hbw
          have HG4 := Lib.hid hgw
          have HO4 := Lib.hid ha.own
          clear hS ha hb hbd ho hbw hgw
          go_wp2_with fail
          go_roundw
          case rel =>
            refine ⟨k + 1, A2, cap2, by omega, by go_num, rfl, ?_, HG4.out, HW4.out⟩
            rw [List.take_add_one, HFK.out]
            simp only [Option.toList, List.map_append, List.map_cons, List.map_nil, factCells_append]
            rw [show factCells [fcut n f] = [.int .i64 0, .int .i64 0, .int .i64 (cutI f.c)] from by rw [HFC.out]; rfl]
            exact HO4.out
          case measure => simp [intOf]; omega
    · have hke : k = N := by omega
      subst hke
      have hl : (factsL l n).length = k := by unfold factsL; rw [HN3.out, List.length_map, List.length_take]; omega
      have HL := Lib.hid hl
      clear hl ho hg hb
      go_wp2_with fail
      go_ret
      refine ⟨A1, cap1, by rw [HL.out]; rfl, ?_, ?_, HB.out⟩
      · rw [HL.out]
        unfold factsL
        rw [HN3.out]
        exact HO.out
      · rw [HL.out]
        exact HG.out

end Go.Proofs.Ytejnjaikalckiaa
