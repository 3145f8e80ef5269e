/- The contract of lychgatelaw06.step: End. -/
import Derived.Test.YtnjndggdnmboeaaMStep2
import Derived.Deep.DeepCutAuto
namespace Go.Proofs.Ytnjndggdnmboeaa
open Go.RowKit

theorem heldE {W : World} {gq gp : Nat} {kd pk pn pb vk vn vb : Int} {wr : Bool} {t t2 : TypeId} (h : Blk W gq [.int .i64 kd, .int .i64 pk, .int .i64 pn, .int .i64 pb, .int .i64 vk, .int .i64 vn, .int .i64 vb, .bool wr] t) (h2 : Blk W gp (vCells ⟨pk, pn, pb⟩) t2) :
    W.cell? ⟨gp, 0, none⟩ = some (.int .i64 pk) ∧ W.cell? ⟨gp, 1, none⟩ = some (.int .i64 pn) ∧ W.cell? ⟨gp, 2, none⟩ = some (.int .i64 pb) ∧ W.cell? ⟨gq, 4, none⟩ = some (.int .i64 vk) ∧ W.cell? ⟨gq, 5, none⟩ = some (.int .i64 vn) ∧ W.cell? ⟨gq, 6, none⟩ = some (.int .i64 vb) ∧ W.cell? ⟨gq, 7, none⟩ = some (.bool wr) :=
  ⟨h2.cell 0, h2.cell 1, h2.cell 2, h.cell 4, h.cell 5, h.cell 6, h.cell 7⟩
set_option maxRecDepth 100000 in
set_option maxHeartbeats 4000000 in
theorem step_end {w W : World} {b r : Nat} {s : MS} {R : Thing} (h : Sep w W [memT b s, refT r s, R]) (pk pn pb vk vn vb : Int) (wr : Bool) {N : Int} (hN : Rd s N) (hN1 : N ≤ 1000000) :
    Calls Try.prog 8 #[.pointer (some ⟨b, 0, none⟩), .pointer (some ⟨r, 0, none⟩), .agg #[.int .i64 4, .int .i64 pk, .int .i64 pn, .int .i64 pb, .int .i64 vk, .int .i64 vn, .int .i64 vb, .bool wr]] W (SPost w [memT b (endS s ⟨pk, pn, pb⟩ wr ⟨vk, vn, vb⟩), refT r (endS s ⟨pk, pn, pb⟩ wr ⟨vk, vn, vb⟩), R] (.bool true)) := by
  have hO : Sep w (W.alloc (.cells #[.int .i64 4, .int .i64 pk, .int .i64 pn, .int .i64 pb, .int .i64 vk, .int .i64 vn, .int .i64 vb, .bool wr] 36)) [memT b s, refT r s, R, boxT W.heap.size [.int .i64 4, .int .i64 pk, .int .i64 pn, .int .i64 pb, .int .i64 vk, .int .i64 vn, .int .i64 vb, .bool wr] 36] := h.box [.int .i64 4, .int .i64 pk, .int .i64 pn, .int .i64 pb, .int .i64 vk, .int .i64 vn, .int .i64 vb, .bool wr] _
  have hgo : W.heap.size < (W.alloc (.cells #[.int .i64 4, .int .i64 pk, .int .i64 pn, .int .i64 pb, .int .i64 vk, .int .i64 vn, .int .i64 vb, .bool wr] 36)).heap.size := by simp
  have HO := Lib.hid hO
  clear hO h
  go_enter Try.func8, Try.ntmps8
  go_wp2_with fail
  ((with_reducible refine (val_any ⟨pk, pn, pb⟩ _).mono ?_); rintro e w2 ⟨rfl, hb⟩)
  have hs := (HO.out.quiet hb).boxV2 ⟨pk, pn, pb⟩ rfl
  generalize W.heap.size = gq at *
  have H := Lib.hid hs
  obtain ⟨o0, o1, o2, o3, o4, o5, o6, o7, ol⟩ := boxO (hs.blk 3 rfl)
  obtain ⟨p0, p1, p2, pl⟩ := box3 (hs.blk 4 rfl)
  clear hb hs HO
  obtain ⟨av, hav⟩ : ∃ v, Hid (endV s ⟨pk, pn, pb⟩ wr = v) := ⟨_, Lib.hid rfl⟩
  obtain ⟨ec, hec⟩ : ∃ v, Hid (endW s ⟨pk, pn, pb⟩ wr = v) := ⟨_, Lib.hid rfl⟩
  go_wp2_with fail
  ((with_reducible refine (H.out.end 0 rfl ⟨pk, pn, pb⟩ wr ⟨vk, vn, vb⟩ hN hN1 ⟨rfl, hav.out, hec.out⟩ rfl).mono ?_); rintro e w3 ⟨rfl, ka⟩)
  clear o0 o1 o2 o3 o4 o5 o6 o7 ol p0 p1 p2 pl
  generalize w2.heap.size = gp at *
  have kab := ka.boxV av rfl
  obtain ⟨o0, o1, o2, o3, o4, o5, o6, o7, ol⟩ := boxO (kab.blk 3 rfl)
  have KA := Lib.hid kab
  clear ka kab H
  go_upto_region 13 with fail
  go_cut [14, 15] (fun g c W' => ∃ g14, g = .pointer (some ⟨g14, 0, none⟩) ∧ c = .int .i64 ec ∧ Sep w W' [memT b (endS s ⟨pk, pn, pb⟩ wr ⟨vk, vn, vb⟩), refT r (endS s ⟨pk, pn, pb⟩ wr ⟨vk, vn, vb⟩), R, boxT gq [.int .i64 4, .int .i64 pk, .int .i64 pn, .int .i64 pb, .int .i64 vk, .int .i64 vn, .int .i64 vb, .bool wr] 36, boxT gp (vCells ⟨pk, pn, pb⟩) 61, boxT w3.heap.size (vCells av) 34, boxT g14 (vCells av) 61])
  case first =>
    have KBD := Lib.hid KA.out.drew
    have kba := (KA.out.boxV2 ⟨0, 0, 0⟩ rfl).drew
    rw [World.size_alloc] at kba
    have KBA := Lib.hid kba
    clear kba
    have E0 := Lib.hid (heldE (KBD.out.blk 3 rfl) (KBD.out.blk 4 rfl))
    have E1 := Lib.hid (heldE (KBA.out.blk 3 rfl) (KBA.out.blk 4 rfl))
    go_region_held3 (fun w' => w'.cell? ⟨gp, 0, none⟩ = some (.int .i64 pk) ∧ w'.cell? ⟨gp, 1, none⟩ = some (.int .i64 pn) ∧ w'.cell? ⟨gp, 2, none⟩ = some (.int .i64 pb) ∧ w'.cell? ⟨gq, 4, none⟩ = some (.int .i64 vk) ∧ w'.cell? ⟨gq, 5, none⟩ = some (.int .i64 vn) ∧ w'.cell? ⟨gq, 6, none⟩ = some (.int .i64 vb) ∧ w'.cell? ⟨gq, 7, none⟩ = some (.bool wr))
      (first | exact E0.out | exact E1.out | exact KS.out | exact KV.out | exact KT.out | exact KW.out | exact KP.out | go_keep)
      (first
        | ((with_reducible refine (kv.rend 1 rfl ⟨pk, pn, pb⟩ wr ⟨vk, vn, vb⟩ hN hN1 ⟨rfl, hav.out, hec.out⟩ rfl).mono ?_); rintro e w6 ⟨rfl, ke⟩; have KS := Lib.hid (heldE (ke.blk 3 rfl) (ke.blk 4 rfl)); have ka6 := ke.boxV2 av rfl; have KW := Lib.hid (heldE (ka6.blk 3 rfl) (ka6.blk 4 rfl)); try (have q := ke.blk 6 rfl; have q0 := q.frozen 0; have q1 := q.frozen 1; have q2 := q.frozen 2; obtain ⟨qc0, qc1, qc2, ql⟩ := box3 q; have kp := ((ke.put 6 rfl 0 (.int .i64 av.kind)).put 6 rfl 1 (.int .i64 av.n)).put 6 rfl 2 (.int .i64 av.block); have KP := Lib.hid (heldE (kp.blk 3 rfl) (kp.blk 4 rfl))))
        | ((with_reducible refine (kx.rend 1 rfl ⟨pk, pn, pb⟩ wr ⟨vk, vn, vb⟩ hN hN1 ⟨rfl, hav.out, hec.out⟩ rfl).mono ?_); rintro e w6 ⟨rfl, ke⟩; have KS := Lib.hid (heldE (ke.blk 3 rfl) (ke.blk 4 rfl)); have ka6 := ke.boxV2 av rfl; have KW := Lib.hid (heldE (ka6.blk 3 rfl) (ka6.blk 4 rfl)); try (have q := ke.blk 6 rfl; have q0 := q.frozen 0; have q1 := q.frozen 1; have q2 := q.frozen 2; obtain ⟨qc0, qc1, qc2, ql⟩ := box3 q; have kp := ((ke.put 6 rfl 0 (.int .i64 av.kind)).put 6 rfl 1 (.int .i64 av.n)).put 6 rfl 2 (.int .i64 av.block); have KP := Lib.hid (heldE (kp.blk 3 rfl) (kp.blk 4 rfl))))
        | ((with_reducible refine (val_any ⟨vk, vn, vb⟩ _).mono ?_); rintro e w5 ⟨rfl, hb5⟩; first
          | (have kv := KBD.out.quiet hb5; have KV := Lib.hid (heldE (kv.blk 3 rfl) (kv.blk 4 rfl)); have kx := kv.boxV2 ⟨0, 0, 0⟩ rfl; have KT := Lib.hid (heldE (kx.blk 3 rfl) (kx.blk 4 rfl)))
          | (have kv := KBA.out.quiet hb5; have KV := Lib.hid (heldE (kv.blk 3 rfl) (kv.blk 4 rfl)))))
    all_goals
      go_wp2_with fail
      go_meet
      first
        | exact ⟨_, rfl, rfl, kp⟩
        | exact ⟨_, rfl, rfl, ka6⟩
  case rest =>
    obtain ⟨g14, rfl, rfl, hs⟩ := hcut
    clear o0 o1 o2 o3 o4 o5 o6 o7 ol KA hav hec
    generalize w3.heap.size = g12 at *
    obtain ⟨x0, x1, x2, xl⟩ := box3 (hs.blk 5 rfl)
    obtain ⟨y0, y1, y2, yl⟩ := box3 (hs.blk 6 rfl)
    have KBD := Lib.hid hs.drew
    clear hs
    go_wp2_with fail
    go_region_with (((with_reducible refine (val_any av _).mono ?_); rintro e w5 ⟨rfl, hb⟩; have kc := KBD.out.quiet hb; obtain ⟨z0, z1, z2, zl⟩ := box3 (kc.blk 6 rfl)))
    all_goals
      have kf := Lib.hid (kc.take 3)
      go_wp2
      go_ret
      refine ⟨?_, kf.out⟩
      clear kf kc KBD
      go_simp

set_option maxHeartbeats 1000000 in
theorem step_else {w W : World} {b r : Nat} {s : MS} {R : Thing} (h : Sep w W [memT b s, refT r s, R]) (kd pk pn pb vk vn vb : Int) (wr : Bool) (h1 : kd ≠ 1) (h2 : kd ≠ 2) (h3 : kd ≠ 3) (h4 : kd ≠ 4) (h5 : kd ≠ 5) (h6 : kd ≠ 6) :
    Calls Try.prog 8 #[.pointer (some ⟨b, 0, none⟩), .pointer (some ⟨r, 0, none⟩), .agg #[.int .i64 kd, .int .i64 pk, .int .i64 pn, .int .i64 pb, .int .i64 vk, .int .i64 vn, .int .i64 vb, .bool wr]] W (SPost w [memT b s, refT r s, R] (.bool true)) := by
  have d1 : (kd == 1) = false := by simpa using h1
  have d2 : (kd == 2) = false := by simpa using h2
  have d3 : (kd == 3) = false := by simpa using h3
  have d4 : (kd == 4) = false := by simpa using h4
  have d5 : (kd == 5) = false := by simpa using h5
  have d6 : (kd == 6) = false := by simpa using h6
  clear h1 h2 h3 h4 h5 h6
  have hO : Sep w (W.alloc (.cells #[.int .i64 kd, .int .i64 pk, .int .i64 pn, .int .i64 pb, .int .i64 vk, .int .i64 vn, .int .i64 vb, .bool wr] 36)) [memT b s, refT r s, R, boxT W.heap.size [.int .i64 kd, .int .i64 pk, .int .i64 pn, .int .i64 pb, .int .i64 vk, .int .i64 vn, .int .i64 vb, .bool wr] 36] := h.box [.int .i64 kd, .int .i64 pk, .int .i64 pn, .int .i64 pb, .int .i64 vk, .int .i64 vn, .int .i64 vb, .bool wr] _
  have hgo : W.heap.size < (W.alloc (.cells #[.int .i64 kd, .int .i64 pk, .int .i64 pn, .int .i64 pb, .int .i64 vk, .int .i64 vn, .int .i64 vb, .bool wr] 36)).heap.size := by simp
  have HO := Lib.hid hO
  clear hO h
  go_enter Try.func8, Try.ntmps8
  go_wp2_with fail
  ((with_reducible refine (val_any ⟨pk, pn, pb⟩ _).mono ?_); rintro e w2 ⟨rfl, hb⟩)
  have hs := (HO.out.quiet hb).boxV2 ⟨pk, pn, pb⟩ rfl
  generalize W.heap.size = gq at *
  have H := Lib.hid (hs.take 3)
  obtain ⟨o0, o1, o2, o3, o4, o5, o6, o7, ol⟩ := boxO (hs.blk 3 rfl)
  clear hb hs HO
  go_wp2
  go_ret
  exact ⟨rfl, H.out⟩

/- What a step makes of the plain account. -/
structure MO where
  kind : Int
  p : MV
  v : MV
  wr : Bool
def stepS (s : MS) (o : MO) : MS :=
  if o.kind = 1 then allocS s o.p.n else if o.kind = 2 then freeS s o.p else if o.kind = 3 then beginS s o.p o.wr else if o.kind = 4 then endS s o.p o.wr o.v else if o.kind = 5 then lockS s o.p else if o.kind = 6 then unlockS s o.p else s
def oCellsV (o : MO) : List Value := [.int .i64 o.kind, .int .i64 o.p.kind, .int .i64 o.p.n, .int .i64 o.p.block, .int .i64 o.v.kind, .int .i64 o.v.n, .int .i64 o.v.block, .bool o.wr]
theorem step_any {w W : World} {b r : Nat} {s : MS} {R : Thing} (h : Sep w W [memT b s, refT r s, R]) (o : MO) {N : Int} (hN : Rd s N) (hN1 : N ≤ 1000000) :
    Calls Try.prog 8 #[.pointer (some ⟨b, 0, none⟩), .pointer (some ⟨r, 0, none⟩), .agg #[.int .i64 o.kind, .int .i64 o.p.kind, .int .i64 o.p.n, .int .i64 o.p.block, .int .i64 o.v.kind, .int .i64 o.v.n, .int .i64 o.v.block, .bool o.wr]] W (SPost w [memT b (stepS s o), refT r (stepS s o), R] (.bool true)) := by
  obtain ⟨kd, ⟨pk, pn, pb⟩, ⟨vk, vn, vb⟩, wr⟩ := o
  unfold stepS
  simp only
  by_cases h1 : kd = 1
  · subst h1; rw [if_pos rfl]; exact step_alloc h pk pn pb vk vn vb wr
  rw [if_neg h1]
  by_cases h2 : kd = 2
  · subst h2; rw [if_pos rfl]; exact step_free h pk pn pb vk vn vb wr
  rw [if_neg h2]
  by_cases h3 : kd = 3
  · subst h3; rw [if_pos rfl]; exact step_begin h pk pn pb vk vn vb wr hN hN1
  rw [if_neg h3]
  by_cases h4 : kd = 4
  · subst h4; rw [if_pos rfl]; exact step_end h pk pn pb vk vn vb wr hN hN1
  rw [if_neg h4]
  by_cases h5 : kd = 5
  · subst h5; rw [if_pos rfl]; exact step_lock h pk pn pb vk vn vb wr
  rw [if_neg h5]
  by_cases h6 : kd = 6
  · subst h6; rw [if_pos rfl]; exact step_unlock h pk pn pb vk vn vb wr
  rw [if_neg h6]
  exact step_else h kd pk pn pb vk vn vb wr h1 h2 h3 h4 h5 h6
theorem Rd.step {s : MS} {N : Int} (h : Rd s N) (h0 : 0 ≤ N) (o : MO) : Rd (stepS s o) (N + 1) := by
  unfold stepS
  split
  · exact (h.alloc _ h0).mono (by omega)
  split
  · exact (h.free _).mono (by omega)
  split
  · exact h.begin _ _
  split
  · exact (h.end _ _ _).mono (by omega)
  split
  · exact (h.lock _).mono (by omega)
  split
  · exact (h.unlock _).mono (by omega)
  · exact h.mono (by omega)

end Go.Proofs.Ytnjndggdnmboeaa
