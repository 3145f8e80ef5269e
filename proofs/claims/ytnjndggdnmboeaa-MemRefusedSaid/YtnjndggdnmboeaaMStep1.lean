/- The contract of lychgatelaw06.step: Free and Unlock. -/
import Derived.Test.YtnjndggdnmboeaaMRefCalls2
import Derived.Test.YtnjndggdnmboeaaMCalls
import Derived.Deep.RegionWith
import Derived.Deep.RegionHeld3
namespace Go.Proofs.Ytnjndggdnmboeaa
open Go.RowKit

theorem Sep.boxV2 {w W : World} {l l' : List Thing} (h : Sep w W l) (v : MV) (hl : l ++ [boxT W.heap.size (vCells v) 61] = l') : Sep w (W.alloc (.cells #[.int .i64 v.kind, .int .i64 v.n, .int .i64 v.block] 61)) l' := by
  subst hl
  exact h.box (vCells v) _
theorem box3 {W : World} {g : Nat} {v : MV} {t : TypeId} (h : Blk W g (vCells v) t) : W.cell? ⟨g, 0, none⟩ = some (.int .i64 v.kind) ∧ W.cell? ⟨g, 1, none⟩ = some (.int .i64 v.n) ∧ W.cell? ⟨g, 2, none⟩ = some (.int .i64 v.block) ∧ g < W.heap.size := ⟨h.cell 0, h.cell 1, h.cell 2, h.lt⟩
theorem boxO {W : World} {g : Nat} {kd pk pn pb vk vn vb : Int} {wr : Bool} {t : TypeId} (h : Blk W g [.int .i64 kd, .int .i64 pk, .int .i64 pn, .int .i64 pb, .int .i64 vk, .int .i64 vn, .int .i64 vb, .bool wr] t) :
    W.cell? ⟨g, 0, none⟩ = some (.int .i64 kd) ∧ W.cell? ⟨g, 1, none⟩ = some (.int .i64 pk) ∧ W.cell? ⟨g, 2, none⟩ = some (.int .i64 pn) ∧ W.cell? ⟨g, 3, none⟩ = some (.int .i64 pb) ∧ W.cell? ⟨g, 4, none⟩ = some (.int .i64 vk) ∧ W.cell? ⟨g, 5, none⟩ = some (.int .i64 vn) ∧ W.cell? ⟨g, 6, none⟩ = some (.int .i64 vb) ∧ W.cell? ⟨g, 7, none⟩ = some (.bool wr) ∧ g < W.heap.size :=
  ⟨h.cell 0, h.cell 1, h.cell 2, h.cell 3, h.cell 4, h.cell 5, h.cell 6, h.cell 7, h.lt⟩

set_option maxRecDepth 100000 in
set_option maxHeartbeats 4000000 in
theorem step_free {w W : World} {b r : Nat} {s : MS} {R : Thing} (h : Sep w W [memT b s, refT r s, R]) (pk pn pb vk vn vb : Int) (wr : Bool) :
    Calls Try.prog 8 #[.pointer (some ⟨b, 0, none⟩), .pointer (some ⟨r, 0, none⟩), .agg #[.int .i64 2, .int .i64 pk, .int .i64 pn, .int .i64 pb, .int .i64 vk, .int .i64 vn, .int .i64 vb, .bool wr]] W (SPost w [memT b (freeS s ⟨pk, pn, pb⟩), refT r (freeS s ⟨pk, pn, pb⟩), R] (.bool true)) := by
  have hO : Sep w (W.alloc (.cells #[.int .i64 2, .int .i64 pk, .int .i64 pn, .int .i64 pb, .int .i64 vk, .int .i64 vn, .int .i64 vb, .bool wr] 36)) [memT b s, refT r s, R, boxT W.heap.size [.int .i64 2, .int .i64 pk, .int .i64 pn, .int .i64 pb, .int .i64 vk, .int .i64 vn, .int .i64 vb, .bool wr] 36] := h.box [.int .i64 2, .int .i64 pk, .int .i64 pn, .int .i64 pb, .int .i64 vk, .int .i64 vn, .int .i64 vb, .bool wr] _
  have go : W.heap.size < (W.alloc (.cells #[.int .i64 2, .int .i64 pk, .int .i64 pn, .int .i64 pb, .int .i64 vk, .int .i64 vn, .int .i64 vb, .bool wr] 36)).heap.size := by simp
  have HO := Lib.hid hO
  clear hO h
  go_enter Try.func8, Try.ntmps8
  go_wp2_with fail
  ((with_reducible refine (val_any ⟨pk, pn, pb⟩ _).mono ?_); rintro e w2 ⟨rfl, hb⟩)
  have hs := (HO.out.quiet hb).boxV2 ⟨pk, pn, pb⟩ rfl
  generalize W.heap.size = go at *
  have H := Lib.hid hs
  obtain ⟨o0, o1, o2, o3, o4, o5, o6, o7, ol⟩ := boxO (hs.blk 3 rfl)
  obtain ⟨p0, p1, p2, pl⟩ := box3 (hs.blk 4 rfl)
  clear hb hs HO
  go_wp2_with fail
  have HD := H.out.drew
  go_region_with (first
    | ((with_reducible refine (ka.rfree 1 rfl ⟨pk, pn, pb⟩ ⟨rfl, rfl⟩ rfl).mono ?_); rintro e kcw ⟨rfl, kc⟩; obtain ⟨o0, o1, o2, o3, o4, o5, o6, o7, ol⟩ := boxO (kc.blk 3 rfl); obtain ⟨p0, p1, p2, pl⟩ := box3 (kc.blk 4 rfl))
    | ((with_reducible refine (kb.free 0 rfl ⟨pk, pn, pb⟩ ⟨rfl, rfl⟩ rfl).mono ?_); rintro e kdw ⟨rfl, kd⟩; obtain ⟨o0, o1, o2, o3, o4, o5, o6, o7, ol⟩ := boxO (kd.blk 3 rfl); obtain ⟨p0, p1, p2, pl⟩ := box3 (kd.blk 4 rfl))
    | ((with_reducible refine (HD.free 0 rfl ⟨pk, pn, pb⟩ ⟨rfl, rfl⟩ rfl).mono ?_); rintro e kaw ⟨rfl, ka⟩; obtain ⟨o0, o1, o2, o3, o4, o5, o6, o7, ol⟩ := boxO (ka.blk 3 rfl); obtain ⟨p0, p1, p2, pl⟩ := box3 (ka.blk 4 rfl))
    | ((with_reducible refine (HD.rfree 1 rfl ⟨pk, pn, pb⟩ ⟨rfl, rfl⟩ rfl).mono ?_); rintro e kbw ⟨rfl, kb⟩; obtain ⟨o0, o1, o2, o3, o4, o5, o6, o7, ol⟩ := boxO (kb.blk 3 rfl); obtain ⟨p0, p1, p2, pl⟩ := box3 (kb.blk 4 rfl)))
  all_goals
    first
      | have kf := Lib.hid (kc.take 3)
      | have kf := Lib.hid (kd.take 3)
    go_wp2
    go_ret
    first
      | exact ⟨rfl, kf.out⟩
      | exact ⟨by simp, kf.out⟩

set_option maxRecDepth 100000 in
set_option maxHeartbeats 4000000 in
theorem step_unlock {w W : World} {b r : Nat} {s : MS} {R : Thing} (h : Sep w W [memT b s, refT r s, R]) (pk pn pb vk vn vb : Int) (wr : Bool) :
    Calls Try.prog 8 #[.pointer (some ⟨b, 0, none⟩), .pointer (some ⟨r, 0, none⟩), .agg #[.int .i64 6, .int .i64 pk, .int .i64 pn, .int .i64 pb, .int .i64 vk, .int .i64 vn, .int .i64 vb, .bool wr]] W (SPost w [memT b (unlockS s ⟨pk, pn, pb⟩), refT r (unlockS s ⟨pk, pn, pb⟩), R] (.bool true)) := by
  have hO : Sep w (W.alloc (.cells #[.int .i64 6, .int .i64 pk, .int .i64 pn, .int .i64 pb, .int .i64 vk, .int .i64 vn, .int .i64 vb, .bool wr] 36)) [memT b s, refT r s, R, boxT W.heap.size [.int .i64 6, .int .i64 pk, .int .i64 pn, .int .i64 pb, .int .i64 vk, .int .i64 vn, .int .i64 vb, .bool wr] 36] := h.box [.int .i64 6, .int .i64 pk, .int .i64 pn, .int .i64 pb, .int .i64 vk, .int .i64 vn, .int .i64 vb, .bool wr] _
  have go : W.heap.size < (W.alloc (.cells #[.int .i64 6, .int .i64 pk, .int .i64 pn, .int .i64 pb, .int .i64 vk, .int .i64 vn, .int .i64 vb, .bool wr] 36)).heap.size := by simp
  have HO := Lib.hid hO
  clear hO h
  go_enter Try.func8, Try.ntmps8
  go_wp2_with fail
  ((with_reducible refine (val_any ⟨pk, pn, pb⟩ _).mono ?_); rintro e w2 ⟨rfl, hb⟩)
  have hs := (HO.out.quiet hb).boxV2 ⟨pk, pn, pb⟩ rfl
  generalize W.heap.size = go at *
  have H := Lib.hid hs
  obtain ⟨o0, o1, o2, o3, o4, o5, o6, o7, ol⟩ := boxO (hs.blk 3 rfl)
  obtain ⟨p0, p1, p2, pl⟩ := box3 (hs.blk 4 rfl)
  clear hb hs HO
  go_wp2_with fail
  have HD := H.out.drew
  go_region_with (first
    | ((with_reducible refine (ka.runlock 1 rfl ⟨pk, pn, pb⟩ ⟨rfl, rfl⟩ rfl).mono ?_); rintro e kcw ⟨rfl, kc⟩; obtain ⟨o0, o1, o2, o3, o4, o5, o6, o7, ol⟩ := boxO (kc.blk 3 rfl); obtain ⟨p0, p1, p2, pl⟩ := box3 (kc.blk 4 rfl))
    | ((with_reducible refine (kb.unlock 0 rfl ⟨pk, pn, pb⟩ ⟨rfl, rfl⟩ rfl).mono ?_); rintro e kdw ⟨rfl, kd⟩; obtain ⟨o0, o1, o2, o3, o4, o5, o6, o7, ol⟩ := boxO (kd.blk 3 rfl); obtain ⟨p0, p1, p2, pl⟩ := box3 (kd.blk 4 rfl))
    | ((with_reducible refine (HD.unlock 0 rfl ⟨pk, pn, pb⟩ ⟨rfl, rfl⟩ rfl).mono ?_); rintro e kaw ⟨rfl, ka⟩; obtain ⟨o0, o1, o2, o3, o4, o5, o6, o7, ol⟩ := boxO (ka.blk 3 rfl); obtain ⟨p0, p1, p2, pl⟩ := box3 (ka.blk 4 rfl))
    | ((with_reducible refine (HD.runlock 1 rfl ⟨pk, pn, pb⟩ ⟨rfl, rfl⟩ rfl).mono ?_); rintro e kbw ⟨rfl, kb⟩; obtain ⟨o0, o1, o2, o3, o4, o5, o6, o7, ol⟩ := boxO (kb.blk 3 rfl); obtain ⟨p0, p1, p2, pl⟩ := box3 (kb.blk 4 rfl)))
  all_goals
    first
      | have kf := Lib.hid (kc.take 3)
      | have kf := Lib.hid (kd.take 3)
    go_wp2
    go_ret
    first
      | exact ⟨rfl, kf.out⟩
      | exact ⟨by simp, kf.out⟩

end Go.Proofs.Ytnjndggdnmboeaa
