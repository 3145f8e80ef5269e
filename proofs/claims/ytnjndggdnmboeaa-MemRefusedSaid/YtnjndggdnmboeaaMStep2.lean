/- The contract of lychgatelaw06.step: Begin, Lock, Alloc. -/
import Derived.Test.YtnjndggdnmboeaaMStep1
namespace Go.Proofs.Ytnjndggdnmboeaa
open Go.RowKit

theorem heldB {W : World} {g q : Nat} {kd pk pn pb vk vn vb : Int} {wr : Bool} {t t2 : TypeId} (h : Blk W g [.int .i64 kd, .int .i64 pk, .int .i64 pn, .int .i64 pb, .int .i64 vk, .int .i64 vn, .int .i64 vb, .bool wr] t) (h2 : Blk W q (vCells ⟨pk, pn, pb⟩) t2) :
    W.cell? ⟨g, 1, none⟩ = some (.int .i64 pk) ∧ W.cell? ⟨g, 2, none⟩ = some (.int .i64 pn) ∧ W.cell? ⟨g, 3, none⟩ = some (.int .i64 pb) ∧ W.cell? ⟨g, 7, none⟩ = some (.bool wr) ∧ W.cell? ⟨q, 0, none⟩ = some (.int .i64 pk) ∧ W.cell? ⟨q, 1, none⟩ = some (.int .i64 pn) ∧ W.cell? ⟨q, 2, none⟩ = some (.int .i64 pb) :=
  ⟨h.cell 1, h.cell 2, h.cell 3, h.cell 7, h2.cell 0, h2.cell 1, h2.cell 2⟩
set_option maxRecDepth 100000 in
set_option maxHeartbeats 4000000 in
theorem step_begin {w W : World} {b r : Nat} {s : MS} {R : Thing} (h : Sep w W [memT b s, refT r s, R]) (pk pn pb vk vn vb : Int) (wr : Bool) {N : Int} (hN : Rd s N) (hN1 : N ≤ 1000000) :
    Calls Try.prog 8 #[.pointer (some ⟨b, 0, none⟩), .pointer (some ⟨r, 0, none⟩), .agg #[.int .i64 3, .int .i64 pk, .int .i64 pn, .int .i64 pb, .int .i64 vk, .int .i64 vn, .int .i64 vb, .bool wr]] W (SPost w [memT b (beginS s ⟨pk, pn, pb⟩ wr), refT r (beginS s ⟨pk, pn, pb⟩ wr), R] (.bool true)) := by
  have hO : Sep w (W.alloc (.cells #[.int .i64 3, .int .i64 pk, .int .i64 pn, .int .i64 pb, .int .i64 vk, .int .i64 vn, .int .i64 vb, .bool wr] 36)) [memT b s, refT r s, R, boxT W.heap.size [.int .i64 3, .int .i64 pk, .int .i64 pn, .int .i64 pb, .int .i64 vk, .int .i64 vn, .int .i64 vb, .bool wr] 36] := h.box [.int .i64 3, .int .i64 pk, .int .i64 pn, .int .i64 pb, .int .i64 vk, .int .i64 vn, .int .i64 vb, .bool wr] _
  have hgo : W.heap.size < (W.alloc (.cells #[.int .i64 3, .int .i64 pk, .int .i64 pn, .int .i64 pb, .int .i64 vk, .int .i64 vn, .int .i64 vb, .bool wr] 36)).heap.size := by simp
  have HO := Lib.hid hO
  clear hO h
  go_enter Try.func8, Try.ntmps8
  go_wp2_with fail
  ((with_reducible refine (val_any ⟨pk, pn, pb⟩ _).mono ?_); rintro e w2 ⟨rfl, hb⟩)
  have hs := (HO.out.quiet hb).boxV2 ⟨pk, pn, pb⟩ rfl
  generalize W.heap.size = gq at *
  have H := Lib.hid hs
  obtain ⟨o0, o1, o2, o3, o4, o5, o6, o7, ol⟩ := boxO (hs.blk 3 rfl)
  obtain ⟨p0, p1, p2, pl⟩ := box3 (hs.blk 4 rfl)
  clear hb hs HO
  go_wp2_with fail
  generalize w2.heap.size = gp at *
  have HD := Lib.hid H.out.drew
  have E0 := Lib.hid (heldB (HD.out.blk 3 rfl) (HD.out.blk 4 rfl))
  go_region_held3 (fun w' => w'.cell? ⟨gq, 1, none⟩ = some (.int .i64 pk) ∧ w'.cell? ⟨gq, 2, none⟩ = some (.int .i64 pn) ∧ w'.cell? ⟨gq, 3, none⟩ = some (.int .i64 pb) ∧ w'.cell? ⟨gq, 7, none⟩ = some (.bool wr) ∧ w'.cell? ⟨gp, 0, none⟩ = some (.int .i64 pk) ∧ w'.cell? ⟨gp, 1, none⟩ = some (.int .i64 pn) ∧ w'.cell? ⟨gp, 2, none⟩ = some (.int .i64 pb))
    (first | exact E0.out | exact KS.out | go_keep)
    (first
      | ((with_reducible refine (ka.rbegin 1 rfl ⟨pk, pn, pb⟩ wr hN hN1 ⟨rfl, rfl⟩ rfl).mono ?_); rintro e kcw ⟨rfl, kc⟩; have KS := Lib.hid (heldB (kc.blk 3 rfl) (kc.blk 4 rfl)))
      | ((with_reducible refine (kb.begin 0 rfl ⟨pk, pn, pb⟩ wr hN hN1 ⟨rfl, rfl⟩ rfl).mono ?_); rintro e kdw ⟨rfl, kd⟩; have KS := Lib.hid (heldB (kd.blk 3 rfl) (kd.blk 4 rfl)))
      | ((with_reducible refine (HD.out.begin 0 rfl ⟨pk, pn, pb⟩ wr hN hN1 ⟨rfl, rfl⟩ rfl).mono ?_); rintro e kaw ⟨rfl, ka⟩; have KS := Lib.hid (heldB (ka.blk 3 rfl) (ka.blk 4 rfl)))
      | ((with_reducible refine (HD.out.rbegin 1 rfl ⟨pk, pn, pb⟩ wr hN hN1 ⟨rfl, rfl⟩ rfl).mono ?_); rintro e kbw ⟨rfl, kb⟩; have KS := Lib.hid (heldB (kb.blk 3 rfl) (kb.blk 4 rfl))))
  all_goals
    first
      | have kf := Lib.hid (kc.take 3)
      | have kf := Lib.hid (kd.take 3)
    go_wp2
    go_ret
    first
      | exact ⟨rfl, kf.out⟩
      | exact ⟨by simp, kf.out⟩

set_option maxRecDepth 100000 in
set_option maxHeartbeats 4000000 in
theorem step_lock {w W : World} {b r : Nat} {s : MS} {R : Thing} (h : Sep w W [memT b s, refT r s, R]) (pk pn pb vk vn vb : Int) (wr : Bool) :
    Calls Try.prog 8 #[.pointer (some ⟨b, 0, none⟩), .pointer (some ⟨r, 0, none⟩), .agg #[.int .i64 5, .int .i64 pk, .int .i64 pn, .int .i64 pb, .int .i64 vk, .int .i64 vn, .int .i64 vb, .bool wr]] W (SPost w [memT b (lockS s ⟨pk, pn, pb⟩), refT r (lockS s ⟨pk, pn, pb⟩), R] (.bool true)) := by
  have hO : Sep w (W.alloc (.cells #[.int .i64 5, .int .i64 pk, .int .i64 pn, .int .i64 pb, .int .i64 vk, .int .i64 vn, .int .i64 vb, .bool wr] 36)) [memT b s, refT r s, R, boxT W.heap.size [.int .i64 5, .int .i64 pk, .int .i64 pn, .int .i64 pb, .int .i64 vk, .int .i64 vn, .int .i64 vb, .bool wr] 36] := h.box [.int .i64 5, .int .i64 pk, .int .i64 pn, .int .i64 pb, .int .i64 vk, .int .i64 vn, .int .i64 vb, .bool wr] _
  have hgo : W.heap.size < (W.alloc (.cells #[.int .i64 5, .int .i64 pk, .int .i64 pn, .int .i64 pb, .int .i64 vk, .int .i64 vn, .int .i64 vb, .bool wr] 36)).heap.size := by simp
  have HO := Lib.hid hO
  clear hO h
  go_enter Try.func8, Try.ntmps8
  go_wp2_with fail
  ((with_reducible refine (val_any ⟨pk, pn, pb⟩ _).mono ?_); rintro e w2 ⟨rfl, hb⟩)
  have hs := (HO.out.quiet hb).boxV2 ⟨pk, pn, pb⟩ rfl
  generalize W.heap.size = gq at *
  have H := Lib.hid hs
  obtain ⟨o0, o1, o2, o3, o4, o5, o6, o7, ol⟩ := boxO (hs.blk 3 rfl)
  obtain ⟨p0, p1, p2, pl⟩ := box3 (hs.blk 4 rfl)
  clear hb hs HO
  go_wp2_with fail
  ((with_reducible refine (H.out.lock 0 rfl ⟨pk, pn, pb⟩ ⟨rfl, rfl, rfl⟩ rfl).mono ?_); rintro e w3 ⟨rfl, ka⟩)
  clear o0 o1 o2 o3 o4 o5 o6 o7 ol p0 p1 p2 pl
  generalize w2.heap.size = gp at *
  obtain ⟨p0, p1, p2, pl⟩ := box3 (ka.blk 4 rfl)
  have KA := Lib.hid ka
  clear ka H
  go_wp2_with fail
  ((with_reducible refine (KA.out.rlock 1 rfl ⟨pk, pn, pb⟩ ⟨rfl, rfl, rfl⟩ rfl).mono ?_); rintro e w4 ⟨rfl, kb⟩)
  have kf := Lib.hid (kb.take 3)
  clear kb KA
  go_wp2
  go_ret
  first
    | exact ⟨rfl, kf.out⟩
    | exact ⟨by simp, kf.out⟩

set_option maxRecDepth 100000 in
set_option maxHeartbeats 4000000 in
theorem step_alloc {w W : World} {b r : Nat} {s : MS} {R : Thing} (h : Sep w W [memT b s, refT r s, R]) (pk pn pb vk vn vb : Int) (wr : Bool) :
    Calls Try.prog 8 #[.pointer (some ⟨b, 0, none⟩), .pointer (some ⟨r, 0, none⟩), .agg #[.int .i64 1, .int .i64 pk, .int .i64 pn, .int .i64 pb, .int .i64 vk, .int .i64 vn, .int .i64 vb, .bool wr]] W (SPost w [memT b (allocS s pn), refT r (allocS s pn), R] (.bool true)) := by
  have hO : Sep w (W.alloc (.cells #[.int .i64 1, .int .i64 pk, .int .i64 pn, .int .i64 pb, .int .i64 vk, .int .i64 vn, .int .i64 vb, .bool wr] 36)) [memT b s, refT r s, R, boxT W.heap.size [.int .i64 1, .int .i64 pk, .int .i64 pn, .int .i64 pb, .int .i64 vk, .int .i64 vn, .int .i64 vb, .bool wr] 36] := h.box [.int .i64 1, .int .i64 pk, .int .i64 pn, .int .i64 pb, .int .i64 vk, .int .i64 vn, .int .i64 vb, .bool wr] _
  have hgo : W.heap.size < (W.alloc (.cells #[.int .i64 1, .int .i64 pk, .int .i64 pn, .int .i64 pb, .int .i64 vk, .int .i64 vn, .int .i64 vb, .bool wr] 36)).heap.size := by simp
  have HO := Lib.hid hO
  clear hO h
  go_enter Try.func8, Try.ntmps8
  go_wp2_with fail
  ((with_reducible refine (val_any ⟨pk, pn, pb⟩ _).mono ?_); rintro e w2 ⟨rfl, hb⟩)
  have hs := (HO.out.quiet hb).boxV2 ⟨pk, pn, pb⟩ rfl
  generalize W.heap.size = gq at *
  have H := Lib.hid hs
  obtain ⟨o0, o1, o2, o3, o4, o5, o6, o7, ol⟩ := boxO (hs.blk 3 rfl)
  obtain ⟨p0, p1, p2, pl⟩ := box3 (hs.blk 4 rfl)
  clear hb hs HO
  obtain ⟨av, hav⟩ : ∃ v, allocV s pn = v := ⟨_, rfl⟩
  obtain ⟨ok, hok⟩ : ∃ v, allocOK s pn = v := ⟨_, rfl⟩
  go_wp2_with fail
  ((with_reducible refine (H.out.alloc 0 rfl pn ⟨rfl, hav, hok⟩ rfl).mono ?_); rintro e w3 ⟨rfl, ka⟩)
  clear o0 o1 o2 o3 o4 o5 o6 o7 ol p0 p1 p2 pl
  generalize w2.heap.size = gp at *
  have kab := ka.boxV av rfl
  obtain ⟨o0, o1, o2, o3, o4, o5, o6, o7, ol⟩ := boxO (kab.blk 3 rfl)
  have KA := Lib.hid kab
  clear ka kab H
  go_wp2_with fail
  ((with_reducible refine (KA.out.ralloc 1 rfl pn ⟨rfl, hav, hok⟩ rfl).mono ?_); rintro e w4 ⟨rfl, kb⟩)
  clear o0 o1 o2 o3 o4 o5 o6 o7 ol
  generalize w3.heap.size = g8 at *
  have kbb := kb.boxV2 av rfl
  obtain ⟨x0, x1, x2, xl⟩ := box3 (kbb.blk 5 rfl)
  have KB := Lib.hid kbb
  have KBD := Lib.hid kbb.drew
  clear kb kbb KA hav hok
  go_wp2_with fail
  go_region_with (((with_reducible refine (val_any av _).mono ?_); rintro e w5 ⟨rfl, hb⟩; have kc := KBD.out.quiet hb; obtain ⟨z0, z1, z2, zl⟩ := box3 (kc.blk 6 rfl)))
  all_goals
    have kf := Lib.hid (kc.take 3)
    go_wp2
    go_ret
    refine ⟨?_, kf.out⟩
    clear kf kc KB KBD
    go_simp

end Go.Proofs.Ytnjndggdnmboeaa
