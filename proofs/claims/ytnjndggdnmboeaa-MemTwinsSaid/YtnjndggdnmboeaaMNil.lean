/- The methods of a nil memory. -/
import Derived.Test.YtnjndggdnmboeaaMOps2
namespace Go.Proofs.Ytnjndggdnmboeaa
open Go.RowKit

def nilW (p : MV) : Int := if p.kind = 2 then 2 else 1
def NPost (w : World) (v : Value) (e : Ending) (w' : World) : Prop := e = .returned v ∧ Below w.heap.size w w'
set_option maxHeartbeats 1000000 in
theorem blockOf_nil (p : MV) (w : World) : Calls Try.prog 30 #[.pointer none, .agg #[.int .i64 p.kind, .int .i64 p.n, .int .i64 p.block]] w (NPost w (.tuple #[.pointer none, .int .i64 (nilW p)])) := by
  by_cases h : p.kind = 2
  · have hd : (p.kind != 2) = false := by simpa using h
    have HR : Hid (nilW p = 2) := Lib.hid (by unfold nilW; rw [if_pos h])
    clear h
    go_enter Try.func30, Try.ntmps30
    go_wp2_with fail
    go_quiet (fail)
    go_wp2
    go_ret2
    rw [HR.out]
    exact ⟨rfl, below_drewN ((Below.refl _ _).alloc (Nat.le_refl _) _) _⟩
  · have hd : (p.kind != 2) = true := by simpa using h
    have HR : Hid (nilW p = 1) := Lib.hid (by unfold nilW; rw [if_neg h])
    clear h
    go_enter Try.func30, Try.ntmps30
    go_wp2
    go_ret2
    rw [HR.out]
    exact ⟨rfl, (Below.refl _ _).alloc (Nat.le_refl _) _⟩
theorem nilW_ne (p : MV) : (nilW p != 0) = true := by unfold nilW; split <;> rfl
set_option maxHeartbeats 1000000 in
theorem cellOf_nil (p : MV) (w : World) : Calls Try.prog 26 #[.pointer none, .agg #[.int .i64 p.kind, .int .i64 p.n, .int .i64 p.block]] w (NPost w (.tuple #[.pointer none, .int .i64 (nilW p)])) := by
  have hd := nilW_ne p
  go_enter Try.func26, Try.ntmps26
  go_wp2_with fail
  ((with_reducible refine (blockOf_nil p _).mono ?_); rintro e w1 ⟨rfl, hb⟩)
  have HB := Lib.hid (((Below.refl w.heap.size w).alloc (Nat.le_refl _) _).trans (hb.mono (by simp)))
  clear hb
  generalize nilW p = c at *
  go_wp2
  go_ret2
  exact ⟨rfl, HB.out⟩
set_option maxHeartbeats 1000000 in
theorem lockOf_nil (p : MV) (w : World) : Calls Try.prog 29 #[.pointer none, .agg #[.int .i64 p.kind, .int .i64 p.n, .int .i64 p.block]] w (NPost w (.tuple #[.pointer none, .int .i64 (nilW p)])) := by
  have hd := nilW_ne p
  go_enter Try.func29, Try.ntmps29
  go_wp2_with fail
  ((with_reducible refine (cellOf_nil p _).mono ?_); rintro e w1 ⟨rfl, hb⟩)
  have HB := Lib.hid (((Below.refl w.heap.size w).alloc (Nat.le_refl _) _).trans (hb.mono (by simp)))
  clear hb
  generalize nilW p = c at *
  go_wp2
  go_ret2
  exact ⟨rfl, HB.out⟩
set_option maxHeartbeats 1000000 in
theorem free_nil (p : MV) (w : World) : Calls Try.prog 15 #[.pointer none, .agg #[.int .i64 p.kind, .int .i64 p.n, .int .i64 p.block]] w (NPost w (.int .i64 (nilW p))) := by
  have hd := nilW_ne p
  go_enter Try.func15, Try.ntmps15
  go_wp2_with fail
  ((with_reducible refine (blockOf_nil p _).mono ?_); rintro e w1 ⟨rfl, hb⟩)
  have HB : Hid (Below w.heap.size w w1) := Lib.hid (((Below.refl w.heap.size w).alloc (Nat.le_refl _) _).trans (hb.mono (by simp)))
  clear hb
  generalize nilW p = c at *
  go_wp2
  go_ret
  exact ⟨rfl, HB.out⟩
set_option maxHeartbeats 1000000 in
theorem begin_nil (p : MV) (wr : Bool) (w : World) : Calls Try.prog 16 #[.pointer none, .agg #[.int .i64 p.kind, .int .i64 p.n, .int .i64 p.block], .bool wr] w (NPost w (.int .i64 (nilW p))) := by
  have hd := nilW_ne p
  go_enter Try.func16, Try.ntmps16
  go_wp2_with fail
  ((with_reducible refine (cellOf_nil p _).mono ?_); rintro e w1 ⟨rfl, hb⟩)
  have HB : Hid (Below w.heap.size w w1) := Lib.hid (((Below.refl w.heap.size w).alloc (Nat.le_refl _) _).trans (hb.mono (by simp)))
  clear hb
  generalize nilW p = c at *
  go_wp2
  go_ret
  exact ⟨rfl, HB.out⟩
set_option maxHeartbeats 1000000 in
theorem unlock_nil (p : MV) (w : World) : Calls Try.prog 17 #[.pointer none, .agg #[.int .i64 p.kind, .int .i64 p.n, .int .i64 p.block]] w (NPost w (.int .i64 (nilW p))) := by
  have hd := nilW_ne p
  go_enter Try.func17, Try.ntmps17
  go_wp2_with fail
  ((with_reducible refine (lockOf_nil p _).mono ?_); rintro e w1 ⟨rfl, hb⟩)
  have HB : Hid (Below w.heap.size w w1) := Lib.hid (((Below.refl w.heap.size w).alloc (Nat.le_refl _) _).trans (hb.mono (by simp)))
  clear hb
  generalize nilW p = c at *
  go_wp2
  go_ret
  exact ⟨rfl, HB.out⟩
set_option maxHeartbeats 1000000 in
theorem lock_nil (p : MV) (w : World) : Calls Try.prog 14 #[.pointer none, .agg #[.int .i64 p.kind, .int .i64 p.n, .int .i64 p.block]] w (NPost w (.tuple #[.bool false, .int .i64 (nilW p)])) := by
  have hd := nilW_ne p
  go_enter Try.func14, Try.ntmps14
  go_wp2_with fail
  ((with_reducible refine (lockOf_nil p _).mono ?_); rintro e w1 ⟨rfl, hb⟩)
  have HB : Hid (Below w.heap.size w w1) := Lib.hid (((Below.refl w.heap.size w).alloc (Nat.le_refl _) _).trans (hb.mono (by simp)))
  clear hb
  generalize nilW p = c at *
  go_wp2
  go_ret2
  exact ⟨rfl, HB.out⟩
set_option maxHeartbeats 1000000 in
theorem end_nil (p : MV) (wr : Bool) (x : MV) (w : World) : Calls Try.prog 13 #[.pointer none, .agg #[.int .i64 p.kind, .int .i64 p.n, .int .i64 p.block], .bool wr, .agg #[.int .i64 x.kind, .int .i64 x.n, .int .i64 x.block]] w (NPost w (.tuple #[.agg #[.int .i64 0, .int .i64 0, .int .i64 0], .int .i64 (nilW p)])) := by
  have hd := nilW_ne p
  have hbl : Below w.heap.size w (endW0 w p x) := (((Below.refl w.heap.size w).alloc (Nat.le_refl _) _).alloc (by simp) _).alloc (by simp; omega) _
  have HBL := Lib.hid hbl
  have HBr := Lib.hid (show Blk (endW0 w p x) (w.heap.size + 1 + 1) [.int .i64 0, .int .i64 0, .int .i64 0] 34 by
    have := Blk.new ((w.alloc (.cells #[.int .i64 p.kind, .int .i64 p.n, .int .i64 p.block] 34)).alloc (.cells #[.int .i64 x.kind, .int .i64 x.n, .int .i64 x.block] 34)) [.int .i64 0, .int .i64 0, .int .i64 0] 34
    rw [World.size_alloc, World.size_alloc] at this
    exact this)
  clear hbl
  go_enter Try.func13, Try.ntmps13
  go_wp2_with fail
  ((with_reducible refine (cellOf_nil p _).mono ?_); rintro e w1 ⟨rfl, hb⟩)
  have hbelow := Lib.hid (HBL.out.trans (hb.mono HBL.out.size))
  have HBr2 := Lib.hid (HBr.out.below hb HBr.out.lt)
  have y0 := HBr2.out.cell 0
  have y1 := HBr2.out.cell 1
  have y2 := HBr2.out.cell 2
  have q0 := HBr2.out.frozen 0
  have q1 := HBr2.out.frozen 1
  have q2 := HBr2.out.frozen 2
  have hlt2 := HBr2.out.lt
  simp only [List.getElem?_cons_zero, List.getElem?_cons_succ] at y0 y1 y2
  clear hb
  generalize nilW p = c at *
  go_wp2
  refine bodyPost_ret (v := .tuple #[vV v0, .int .i64 c]) (by simp [results, Try.results13, go_sem, vV, v0, y0, y1, y2]) rfl ?_
  refine ⟨rfl, ?_⟩
  exact ((hbelow.out.setCell (by show w.heap.size ≤ w.heap.size + 1 + 1; omega) _).setCell (by show w.heap.size ≤ w.heap.size + 1 + 1; omega) _).setCell (by show w.heap.size ≤ w.heap.size + 1 + 1; omega) _
set_option maxHeartbeats 1000000 in
theorem alloc_nil (n : Int) (w : World) : Calls Try.prog 12 #[.pointer none, .int .i64 n] w (NPost w (.tuple #[.agg #[.int .i64 0, .int .i64 0, .int .i64 0], .bool false])) := by
  go_enter Try.func12, Try.ntmps12
  go_wp2
  exact bodyPost_ret (v := .tuple #[.agg #[.int .i64 0, .int .i64 0, .int .i64 0], .bool false]) (by simp [results, Try.results12, go_sem]) rfl ⟨rfl, (Below.refl _ _).alloc (Nat.le_refl _) _⟩
set_option maxHeartbeats 1000000 in
theorem blocks_nil (w : World) : Calls Try.prog 10 #[.pointer none] w (NPost w (.slice none 0 0)) := by
  go_enter Try.func10, Try.ntmps10
  go_wp2
  go_ret
  exact ⟨rfl, Below.refl _ _⟩
set_option maxHeartbeats 1000000 in
theorem used_nil (w : World) : Calls Try.prog 11 #[.pointer none] w (NPost w (.int .i64 0)) := by
  go_enter Try.func11, Try.ntmps11
  go_wp2
  go_ret
  exact ⟨rfl, Below.refl _ _⟩

end Go.Proofs.Ytnjndggdnmboeaa
