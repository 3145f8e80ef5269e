/- The contract of heap.Heap.Put. -/
import Derived.Test.YtejnjaikalckiaaHCl
import Derived.Test.YtejnjaikalckiaaHAny
namespace Go.Proofs.Ytejnjaikalckiaa
open Go.RowKit

theorem Try.infoCk : (Try.prog.info? 40).map (fun i => (i.zero, i.size, i.bytes)) = some (some (.agg #[.int .i64 0, .int .i64 0, .int .i64 0, .bool false, .bool false, .bool false, .int .i64 0, .int .i64 0, .int .i64 0, .int .i64 0, .slice none 0 0]), 11, 88) := by kernel_rfl
theorem Try.ckRow : ∃ i z, RowI Try.prog 25 40 11 88 i z := by
  obtain ⟨i0, hi, hz0, hz1, hz2⟩ := info_parts Try.infoCk
  exact ⟨i0, _, Try.underlying25, hi, hz0, hz1, hz2, rfl, by decide⟩

def CkV (c : Ck) (v : Value) : Value := .agg #[.int .i64 c.o, .int .i64 c.ty, .int .i64 c.at', .bool c.live, .bool c.held, .bool c.arr, .int .i64 c.size.kind, .int .i64 c.size.v, .int .i64 c.size.k, .int .i64 c.size.b, v]

theorem zipWith_snoc {α β γ : Type} (f : α → β → γ) : ∀ (l : List α) (m : List β) (a : α) (b : β), m.length = l.length → List.zipWith f (l ++ [a]) (m ++ [b]) = List.zipWith f l m ++ [f a b]
  | [], [], a, b, _ => rfl
  | x :: l, y :: m, a, b, h => by
    simp only [List.cons_append, List.zipWith_cons_cons]
    rw [zipWith_snoc f l m a b (by simpa using h)]
  | [], y :: m, _, _, h => by simp at h
  | x :: l, [], _, _, h => by simp at h

theorem allT_one {T : Thing} {w : World} {F : Nat → Prop} (h : T.P w F) : (allT [T]).P w F := by
  refine ⟨fun i k => i = 0 ∧ F k ∧ k < w.heap.size, fun i U hU => ?_, fun i k h => h.2, fun i j k hij h1 h2 => hij (h1.1.trans h2.1.symm)⟩
  cases i with
  | zero =>
    cases hU
    exact T.more h fun k hk hF => ⟨rfl, hF, hk⟩
  | succ i => simp at hU
theorem Sep.rotate {w W : World} {x : Thing} {l : List Thing} (h : Sep w W (x :: l)) : Sep w W (l ++ [x]) :=
  (show Sep w W (allT [x] :: l) from h.alter 0 rfl (allT [x]) fun _ hF => allT_one hF).unpack

theorem allT_swap {R A B : Thing} {w : World} {F : Nat → Prop} (h : (allT [allT [R, A], B]).P w F) : (allT [allT [R, B], A]).P w F := by
  obtain ⟨G, h1, h2, h3⟩ := h
  obtain ⟨G', k1, k2, k3⟩ := h1 0 _ rfl
  have hB := h1 1 _ rfl
  have hR := k1 0 _ rfl
  have hA := k1 1 _ rfl
  refine ⟨fun i k => match i with | 0 => G' 0 k ∨ (G 1 k ∧ k < w.heap.size) | 1 => G' 1 k | _ => False, ?_, ?_, ?_⟩
  · intro i U hU
    match i, hU with
    | 0, hU =>
      cases hU
      refine ⟨fun i k => match i with | 0 => G' 0 k | 1 => G 1 k ∧ k < w.heap.size | _ => False, ?_, ?_, ?_⟩
      · intro i U hU
        match i, hU with
        | 0, hU => cases hU; exact hR
        | 1, hU => cases hU; exact B.more hB fun k hk hG => ⟨hG, hk⟩
        | i + 2, hU => simp at hU
      · intro i k hk
        match i, hk with
        | 0, hk => exact ⟨.inl hk, (k2 0 k hk).2⟩
        | 1, hk => exact ⟨.inr hk, hk.2⟩
      · intro i j k hij hi hj
        match i, j, hi, hj with
        | 0, 0, _, _ => exact hij rfl
        | 1, 1, _, _ => exact hij rfl
        | 0, 1, hi, hj => exact h3 0 1 k (by omega) (k2 0 k hi).1 hj.1
        | 1, 0, hi, hj => exact h3 0 1 k (by omega) (k2 0 k hj).1 hi.1
    | 1, hU => cases hU; exact hA
    | i + 2, hU => simp at hU
  · intro i k hk
    match i, hk with
    | 0, .inl hk => exact ⟨(h2 0 k (k2 0 k hk).1).1, (k2 0 k hk).2⟩
    | 0, .inr hk => exact ⟨(h2 1 k hk.1).1, hk.2⟩
    | 1, hk => exact ⟨(h2 0 k (k2 1 k hk).1).1, (k2 1 k hk).2⟩
  · intro i j k hij hi hj
    match i, j, hi, hj with
    | 0, 0, _, _ => exact hij rfl
    | 1, 1, _, _ => exact hij rfl
    | 0, 1, .inl hi, hj => exact k3 0 1 k (by omega) hi hj
    | 0, 1, .inr hi, hj => exact h3 0 1 k (by omega) (k2 1 k hj).1 hi.1
    | 1, 0, hi, .inl hj => exact k3 0 1 k (by omega) hj hi
    | 1, 0, hi, .inr hj => exact h3 0 1 k (by omega) (k2 1 k hi).1 hj.1

theorem allT_map {X Y C : Thing} {w : World} {F : Nat → Prop} (hm : ∀ F, X.P w F → Y.P w F) (h : (allT [X, C]).P w F) : (allT [Y, C]).P w F := by
  obtain ⟨G, h1, h2, h3⟩ := h
  refine ⟨G, fun i U hU => ?_, h2, h3⟩
  match i, hU with
  | 0, hU => cases hU; exact hm _ (h1 0 _ rfl)
  | 1, hU => exact h1 1 U hU
  | i + 2, hU => simp at hU
section
variable {T : HTy} {w0 W W' : World} {R : Thing} {b : Nat} {bc : List Value} {vc vf v' v : Value} {vs : List Value} {H : Hp} {olds : List (Value × Nat)} {c : Ck}
theorem HSg.swapR {A B : Thing} (h : HSg T w0 W (allT [allT [R, A], B]) b bc vc vf vs H olds) : HSg T w0 W (allT [allT [R, B], A]) b bc vc vf vs H olds := ⟨h.sep.alter 0 rfl (allT [allT [R, B], A]) fun _ hF => allT_swap hF, h.len⟩
theorem HSg.swapIn {A B C : Thing} (h : HSg T w0 W (allT [allT [allT [R, A], B], C]) b bc vc vf vs H olds) : HSg T w0 W (allT [allT [allT [R, B], A], C]) b bc vc vf vs H olds := ⟨h.sep.alter 0 rfl (allT [allT [allT [R, B], A], C]) fun _ hF => allT_map (fun _ h => allT_swap h) hF, h.len⟩
/- A chunk more, whose cells lie beside the heap. -/
theorem HSg.chunkMore (h : HSg T w0 W (allT [R, cellT T.sym c v]) b bc vc vf vs H olds) (ha : AppI T.chunk 11 vc H.chunks.length 1 (ckRows H.chunks vs).flatten (ckCells c v) W v' W') : HSg T w0 W' R b bc v' vf (vs ++ [v]) { H with chunks := H.chunks ++ [c] } olds := by
  obtain ⟨F, hF, hn⟩ := h.sep.call 2 (rowT T.chunk 11 vc (ckRows H.chunks vs)) rfl
  obtain ⟨hc, hb⟩ := ha.ch hF.2.1
  have e : ckRows (H.chunks ++ [c]) (vs ++ [v]) = ckRows H.chunks vs ++ [ckCells c v] := zipWith_snoc _ _ _ _ _ h.len
  have h1 := hn W' (rowT T.chunk 11 v' (ckRows (H.chunks ++ [c]) (vs ++ [v]))) hc ⟨by
    rw [e, List.length_append, ckRows_len h.len, List.flatten_append]
    simpa using ha.own, hb, ckRows_each⟩
  have h4 := (show Sep w0 W' ([allT [R, cellT T.sym c v]] ++ (boxT b bc T.heap :: rowT T.chunk 11 v' (ckRows (H.chunks ++ [c]) (vs ++ [v])) :: factT T.leq vf H.facts olds :: List.zipWith (cellT T.sym) H.chunks vs)) from h1).pack
  have h8 := (h4.swap.unpack.pick [0, 2, 1] (by decide) [allT (boxT b bc T.heap :: rowT T.chunk 11 v' (ckRows (H.chunks ++ [c]) (vs ++ [v])) :: factT T.leq vf H.facts olds :: List.zipWith (cellT T.sym) H.chunks vs), cellT T.sym c v, R] rfl).unpack.rotate
  refine ⟨?_, by simp [h.len]⟩
  unfold compsT
  rw [show ({ H with chunks := H.chunks ++ [c] } : Hp).chunks = H.chunks ++ [c] from rfl, zipWith_snoc _ _ _ _ _ h.len]
  exact h8
end

def PuPost (w0 : World) (R : Thing) (b : Nat) (vf : Value) (vs : List Value) (H : Hp) (c : Ck) (olds : List (Value × Nat)) (e : Ending) (w' : World) : Prop :=
  ∃ vc' v', e = .returned (SyV (putY H)) ∧ HS pT w0 w' R b vc' vf (vs ++ [v']) (putH H c) olds

set_option maxRecDepth 100000 in
set_option maxHeartbeats 16000000 in
theorem put_any {w0 w : World} {R : Thing} {b : Nat} {vc vf : Value} {vs : List Value} {H : Hp} {olds : List (Value × Nat)} (h : HS pT w0 w R b vc vf vs H olds) (hn : H.chunks.length ≤ 1000000) (c : Ck) {A : Option Addr} {cap : Nat} (hA : SysAt w w.heap.size A c.cells) (hl : c.cells.length ≤ 1000000) :
    Calls Try.prog 23 #[.pointer (some ⟨b, 0, none⟩), CkV c (.slice A c.cells.length cap)] w (PuPost w0 R b vf vs H c olds) := by
  obtain ⟨CA, ccap, hvc, _, hcm⟩ := row_form h.chunks
  have hne1 : some b ≠ vc.ownBlock := fun e => by
    obtain ⟨F, hF⟩ := h.sep
    exact hF.apart 1 2 b (by omega) (hF.holds 1 _ rfl).2 ((hF.holds 2 _ rfl).2.1 b e.symm)
  have hne2 : some w.heap.size ≠ vc.ownBlock := fun e => Nat.lt_irrefl _ (row_lt h.chunks e.symm)
  have hne4 : some (w.heap.size + 1) ≠ vc.ownBlock := fun e => by have := row_lt h.chunks e.symm; omega
  have hbw := h.blk.lt
  have hne3 : b ≠ w.heap.size := Nat.ne_of_lt h.blk.lt
  have h1 := (HSg.box h (ckCells c (.slice A c.cells.length cap)) 40).box [.int .i64 0, .int .i64 0, .int .i64 0, .int .i64 0] 36
  rw [show (w.alloc (.cells (ckCells c (.slice A c.cells.length cap)).toArray 40)).heap.size = w.heap.size + 1 by simp] at h1
  have hb0 : Below w.heap.size w ((w.alloc (.cells (ckCells c (.slice A c.cells.length cap)).toArray 40)).alloc (.cells #[.int .i64 0, .int .i64 0, .int .i64 0, .int .i64 0] 36)) := ((Below.refl _ _).alloc (Nat.le_refl _) _).alloc (by simp) _
  have hcl := clone_any (cap := cap) _ ((hA.below hb0 (Nat.le_refl _)).more hb0.size) hl
  have H1 := Lib.hid h1
  have HB0 := Lib.hid hb0
  clear h h1 hA hb0
  unfold ckCells at hcl
  subst hvc
  go_enter Try.func23, Try.ntmps23
  unfold CkV
  go_wp2_with fail
  ((with_reducible refine hcl.mono ?_); rintro e w2 ⟨A2, cap2, rfl, ho2, hg2, hb2⟩)
  have h2 := (H1.out.thing hb2 (cellT 36 c (.slice A2 c.cells.length cap2)) ⟨by rw [List.length_map]; exact ho2, fun g hg => .inr ⟨hg2 g hg, row_lt ho2 hg⟩, sy_each _⟩).swapIn.swapR.localPut 10 (.slice A2 c.cells.length cap2)
  have h3 := h2.swapR
  have hzb := ((Blk.new (w.alloc (.cells (ckCells c (.slice A c.cells.length cap)).toArray 40)) [.int .i64 0, .int .i64 0, .int .i64 0, .int .i64 0] 36).stays hb2).far (p := ⟨w.heap.size, 10, none⟩) (by simp) (.slice A2 c.cells.length cap2)
  have hcb := ((Blk.new w (ckCells c (.slice A c.cells.length cap)) 40).alloc (.cells #[.int .i64 0, .int .i64 0, .int .i64 0, .int .i64 0] 36)).stays hb2
  have k0 := hcb.cell 0
  have k1 := hcb.cell 1
  have k2 := hcb.cell 2
  have k3 := hcb.cell 3
  have k4 := hcb.cell 4
  have k5 := hcb.cell 5
  have k6 := hcb.cell 6
  have k7 := hcb.cell 7
  have k8 := hcb.cell 8
  have k9 := hcb.cell 9
  have k10 := hcb.cell 10
  have kz := hcb.frozen
  have klt := hcb.lt
  simp only [ckCells, List.getElem?_cons_zero, List.getElem?_cons_succ] at k0 k1 k2 k3 k4 k5 k6 k7 k8 k9 k10
  have h4 := h3.quiet ((Below.refl _ _).drew)
  obtain ⟨hs0, _, _, _, hbl⟩ := h4.three
  have HZB := Lib.hid (hzb.drew)
  obtain ⟨i0, z0, I⟩ := Try.ckRow
  clear h2 h3 hcl hcb hzb ho2 hg2 hb2 H1
  go_wp2_with fail
  refine AnyE.begin2 (S := fun W => W.cell? ⟨b, 0, none⟩ = some (.slice CA H.chunks.length ccap) ∧ W.cell? ⟨w.heap.size, 0, none⟩ = some (.int .i64 c.o) ∧ W.cell? ⟨w.heap.size, 1, none⟩ = some (.int .i64 c.ty) ∧ W.cell? ⟨w.heap.size, 2, none⟩ = some (.int .i64 c.at') ∧ W.cell? ⟨w.heap.size, 3, none⟩ = some (.bool c.live) ∧ W.cell? ⟨w.heap.size, 4, none⟩ = some (.bool c.held) ∧ W.cell? ⟨w.heap.size, 5, none⟩ = some (.bool c.arr) ∧ W.cell? ⟨w.heap.size, 6, none⟩ = some (.int .i64 c.size.kind) ∧ W.cell? ⟨w.heap.size, 7, none⟩ = some (.int .i64 c.size.v) ∧ W.cell? ⟨w.heap.size, 8, none⟩ = some (.int .i64 c.size.k) ∧ W.cell? ⟨w.heap.size, 9, none⟩ = some (.int .i64 c.size.b) ∧ W.cell? ⟨w.heap.size, 10, none⟩ = some (.slice A2 c.cells.length cap2)) (by kernel_rfl) ⟨hs0, by go_simp, by go_simp, by go_simp, by go_simp, by go_simp, by go_simp, by go_simp, by go_simp, by go_simp, by go_simp, by go_simp⟩ (fun hS => ?_)
  generalize (w2.setCell ⟨w.heap.size, 10, none⟩ (.slice A2 c.cells.length cap2)).drew = wd at h4 hS HZB ⊢
  have HZW := Lib.hid (HZB.out.alloc (.cells #[.int .i64 c.o, .int .i64 c.ty, .int .i64 c.at', .bool c.live, .bool c.held, .bool c.arr, .int .i64 c.size.kind, .int .i64 c.size.v, .int .i64 c.size.k, .int .i64 c.size.b, .slice A2 c.cells.length cap2] 40))
  have H4 := Lib.hid (h4.quiet ((Below.refl wd.heap.size wd).alloc (Nat.le_refl _) (.cells #[.int .i64 c.o, .int .i64 c.ty, .int .i64 c.at', .bool c.live, .bool c.held, .bool c.arr, .int .i64 c.size.kind, .int .i64 c.size.v, .int .i64 c.size.k, .int .i64 c.size.b, .slice A2 c.cells.length cap2] 40)))
  have ho := H4.out.chunks
  have hlit := lit2_at wd 40 (ckCells c (.slice A2 c.cells.length cap2))
  have hn88 : (H.chunks.length + 1) * 88 ≤ 140737488355328 := by omega
  have hn63 : H.chunks.length + 1 ≤ maxLen := by unfold maxLen; omega
  refine AnyE.take (i := 0) (oi := ⟨some 12, _, _, _, _, _⟩) (v := .pointer (some ⟨b, 0, none⟩)) rfl (by kernel_rfl) (by kernel_rfl) (by kernel_rfl) (by kernel_rfl) (fun _ _ _ h => h) (Or.inl ⟨by rfl, fun W _ => by go_simp⟩) hS ?_
  try simp only [Act.put, List.setIfInBounds_toArray, List.set_cons_zero, List.set_cons_succ]
  refine AnyE.take (i := 1) (oi := ⟨some 13, _, _, _, _, _⟩) (v := .pointer (some ⟨b, 0, none⟩)) rfl (by kernel_rfl) (by kernel_rfl) (by kernel_rfl) (by kernel_rfl) (fun _ _ _ h => h) (Or.inl ⟨by rfl, fun W _ => by go_simp⟩) hS ?_
  try simp only [Act.put, List.setIfInBounds_toArray, List.set_cons_zero, List.set_cons_succ]
  refine AnyE.take (i := 2) (oi := ⟨some 14, _, _, _, _, _⟩) (v := .pointer (some ⟨b, 0, none⟩)) rfl (by kernel_rfl) (by kernel_rfl) (by kernel_rfl) (by kernel_rfl) (fun _ _ _ h => h) (Or.inl ⟨by rfl, fun W _ => by go_simp⟩) hS ?_
  try simp only [Act.put, List.setIfInBounds_toArray, List.set_cons_zero, List.set_cons_succ]
  refine AnyE.take (i := 3) (oi := ⟨some 15, _, _, _, _, _⟩) (v := .pointer (some ⟨b, 0, none⟩)) rfl (by kernel_rfl) (by kernel_rfl) (by kernel_rfl) (by kernel_rfl) (fun _ _ _ h => h) (Or.inl ⟨by rfl, fun W _ => by go_simp⟩) hS ?_
  try simp only [Act.put, List.setIfInBounds_toArray, List.set_cons_zero, List.set_cons_succ]
  refine AnyE.take (i := 4) (oi := ⟨some 16, _, _, _, _, _⟩) (v := .slice CA H.chunks.length ccap) rfl (by kernel_rfl) (by kernel_rfl) (by kernel_rfl) (by kernel_rfl) (fun _ _ _ h => h) (Or.inl ⟨by rfl, fun W hW => by obtain ⟨hb0, hc0, hc1, hc2, hc3, hc4, hc5, hc6, hc7, hc8, hc9, hc10⟩ := hW; go_simp⟩) hS ?_
  try simp only [Act.put, List.setIfInBounds_toArray, List.set_cons_zero, List.set_cons_succ]
  refine AnyE.take (i := 5) (oi := ⟨some 17, _, _, _, _, _⟩) (v := .agg #[.int .i64 c.o, .int .i64 c.ty, .int .i64 c.at', .bool c.live, .bool c.held, .bool c.arr, .int .i64 c.size.kind, .int .i64 c.size.v, .int .i64 c.size.k, .int .i64 c.size.b, .slice A2 c.cells.length cap2]) rfl (by kernel_rfl) (by kernel_rfl) (by kernel_rfl) (by kernel_rfl) (fun _ _ _ h => h) (Or.inl ⟨by rfl, fun W hW => by obtain ⟨hb0, hc0, hc1, hc2, hc3, hc4, hc5, hc6, hc7, hc8, hc9, hc10⟩ := hW; go_simp⟩) hS ?_
  try simp only [Act.put, List.setIfInBounds_toArray, List.set_cons_zero, List.set_cons_succ]
  refine AnyE.one (i := 6) (o := ⟨some 18, _, _, _, _, _⟩) (by kernel_rfl) rfl (by rfl) (fun K hK => ?_)
  go_simp
  have hb : Below wd.heap.size wd (wd.alloc (.cells #[.int .i64 c.o, .int .i64 c.ty, .int .i64 c.at', .bool c.live, .bool c.held, .bool c.arr, .int .i64 c.size.kind, .int .i64 c.size.v, .int .i64 c.size.k, .int .i64 c.size.b, .slice A2 c.cells.length cap2] 40)) := (Below.refl _ _).alloc (Nat.le_refl _) _
  have hS := (show _ ∧ _ ∧ _ ∧ _ ∧ _ ∧ _ ∧ _ ∧ _ ∧ _ ∧ _ ∧ _ ∧ _ from ⟨keepC hS.1 hb, keepC hS.2.1 hb, keepC hS.2.2.1 hb, keepC hS.2.2.2.1 hb, keepC hS.2.2.2.2.1 hb, keepC hS.2.2.2.2.2.1 hb, keepC hS.2.2.2.2.2.2.1 hb, keepC hS.2.2.2.2.2.2.2.1 hb, keepC hS.2.2.2.2.2.2.2.2.1 hb, keepC hS.2.2.2.2.2.2.2.2.2.1 hb, keepC hS.2.2.2.2.2.2.2.2.2.2.1 hb, keepC hS.2.2.2.2.2.2.2.2.2.2.2 hb⟩)
  refine hK.out _ _ (fun _ => hS) ?_
  clear hK K
  try simp only [Act.put, List.setIfInBounds_toArray, List.set_cons_zero, List.set_cons_succ]
  refine AnyE.one (i := 7) (o := ⟨some 19, _, _, _, _, _⟩) (by kernel_rfl) rfl (by rfl) (fun K hK => ?_)
  refine (wp_append_hist (.tmp 16) (.tmp 18) rfl I rfl ho rfl (news := ckCells c (.slice A2 c.cells.length cap2)) rfl hlit (allOne _ rfl) hn63 hn88 ?_)
  intro A3 cap3 w4 ha
  have hgn : ∀ g o x, (wd.alloc (.cells #[.int .i64 c.o, .int .i64 c.ty, .int .i64 c.at', .bool c.live, .bool c.held, .bool c.arr, .int .i64 c.size.kind, .int .i64 c.size.v, .int .i64 c.size.k, .int .i64 c.size.b, .slice A2 c.cells.length cap2] 40)).cell? ⟨g, o, none⟩ = some x → some g ≠ (Value.slice CA H.chunks.length ccap).ownBlock → w4.cell? ⟨g, o, none⟩ = some x := fun g o x hx hne => ha.grown.cell (a := ⟨g, o, none⟩) hx hne
  have hS := (show _ ∧ _ ∧ _ ∧ _ ∧ _ ∧ _ ∧ _ ∧ _ ∧ _ ∧ _ ∧ _ ∧ _ from ⟨hgn _ _ _ hS.1 hne1, hgn _ _ _ hS.2.1 hne2, hgn _ _ _ hS.2.2.1 hne2, hgn _ _ _ hS.2.2.2.1 hne2, hgn _ _ _ hS.2.2.2.2.1 hne2, hgn _ _ _ hS.2.2.2.2.2.1 hne2, hgn _ _ _ hS.2.2.2.2.2.2.1 hne2, hgn _ _ _ hS.2.2.2.2.2.2.2.1 hne2, hgn _ _ _ hS.2.2.2.2.2.2.2.2.1 hne2, hgn _ _ _ hS.2.2.2.2.2.2.2.2.2.1 hne2, hgn _ _ _ hS.2.2.2.2.2.2.2.2.2.2.1 hne2, hgn _ _ _ hS.2.2.2.2.2.2.2.2.2.2.2 hne2⟩)
  have HA := Lib.hid ha
  clear ha hgn
  refine hK.out _ _ (fun _ => hS) ?_
  clear hK K
  try simp only [Act.put, List.setIfInBounds_toArray, List.set_cons_zero, List.set_cons_succ]
  refine AnyE.one (i := 8) (o := ⟨some 20, _, _, _, _, _⟩) (by kernel_rfl) rfl (by rfl) (fun K hK => ?_)
  go_simp
  refine hK.out _ _ (fun _ => hS) ?_
  clear hK K
  try simp only [Act.put, List.setIfInBounds_toArray, List.set_cons_zero, List.set_cons_succ]
  refine AnyE.take (i := 9) (oi := ⟨some 21, _, _, _, _, _⟩) (v := .pointer (some ⟨b, 0, none⟩)) rfl (by kernel_rfl) (by kernel_rfl) (by kernel_rfl) (by kernel_rfl) (fun _ _ _ h => h) (Or.inl ⟨by rfl, fun W _ => by go_simp⟩) hS ?_
  try simp only [Act.put, List.setIfInBounds_toArray, List.set_cons_zero, List.set_cons_succ]
  refine AnyE.one (i := 10) (o := ⟨none, _, _, _, _, _⟩) (by kernel_rfl) rfl (by rfl) (fun K hK => ?_)
  obtain ⟨d0, d1, d2, z4, hlt4⟩ := (HSg.chunkMore H4.out HA.out).three
  go_simp
  refine hK.out _ _ (fun h => absurd rfl h) ?_
  clear hK K
  try simp only [Act.put, List.setIfInBounds_toArray, List.set_cons_zero, List.set_cons_succ]
  refine AnyE.done (by kernel_rfl) ?_ _
  have H5 := Lib.hid ((HSg.chunkMore H4.out HA.out).front.put 0 (.slice A3 (H.chunks.length + 1) cap3))
  have hzw : Blk w4 (w.heap.size + 1) [.int .i64 0, .int .i64 0, .int .i64 0, .int .i64 0] 36 := by
    have h6 := HZW.out
    rw [show (w.alloc (.cells (ckCells c (.slice A c.cells.length cap)).toArray 40)).heap.size = w.heap.size + 1 by simp] at h6
    exact h6.same (HA.out.grown.block _ h6.lt hne4)
  obtain ⟨z0, z1, z2, z3, zz, zl⟩ := hzw.four
  obtain ⟨d0, d1, d2, z4, hlt4⟩ := (HSg.chunkMore H4.out HA.out).three
  have hne5 : b ≠ w.heap.size + 1 := by omega
  have HZ5 := Lib.hid hzw
  clear hS hzw I ho hlit hbl hs0
  go_wp2_with fail
  have h6 := ((((H5.out.localPut 0 (.int .i64 2)).localPut 1 (.int .i64 0)).localPut 2 (.int .i64 0)).localPut 3 (.int .i64 (H.chunks.length : Int)))
  refine ret_box (v := SyV (putY H)) h6.local.1 (fun W' hb => ?_) rfl ?_
  · obtain ⟨q0, q1, q2, q3, _⟩ := hb.four
    simp [results, Try.results23, go_sem, SyV, putY, q0, q1, q2, q3]
  · exact ⟨_, _, rfl, h6.front⟩

end Go.Proofs.Ytejnjaikalckiaa
