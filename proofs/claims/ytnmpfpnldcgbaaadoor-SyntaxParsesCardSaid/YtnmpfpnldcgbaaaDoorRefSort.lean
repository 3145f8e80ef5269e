/- The contracts of lychgateref02.fail and lychgateref02.sort. -/
import Derived.Test.YtnmpfpnldcgbaaaDoorRefMode
namespace Go.Proofs.YtnmpfpnldcgbaaaDoor
open Go.RowKit

def RFail (E : Env) (w : World) (d : Nat) (l : List Tok) (f : Int) (q : Nat) (c : Int) (e : Ending) (w' : World) : Prop :=
  ∃ f' q', e = .returned (.tuple #[]) ∧ RSt E w' l d f' q' ∧ Kp E.pb w w' ∧ (f' == 0) = false ∧ ∀ {α : Type} (t : α), Sees l f q (.error ((hdT l).place, c)) t l f' q'
theorem rfail_tot {E : Env} {w : World} {l : List Tok} {d : Nat} {f : Int} {q : Nat} (h : RSt E w l d f q) (c : Int) (hc : (c == 0) = false) :
    Calls Tryd.prog 57 #[.pointer (some ⟨E.pb, 0, none⟩), .int .i64 c] w (RFail E w d l f q c) := by
  cases hf : (f == 0) with
  | false => exact (rfail_bad h hf c).mono fun _ _ ⟨he, hw⟩ => ⟨f, q, he, by rw [← hw]; exact h, by rw [← hw]; exact Kp.refl _ _, hf, fun _ => .inr ⟨hf, rfl, rfl, rfl⟩⟩
  | true =>
    have e : f = 0 := beq_iff_eq.1 hf
    subst e
    exact (rfail_ok h c).mono fun _ _ ⟨he, h1, h2⟩ => ⟨c, _, he, h1, h2, hc, fun _ => .inl ⟨rfl, .inr ⟨_, _, rfl, rfl, rfl, hc⟩⟩⟩

theorem keyCell : keySign (bs [99, 101, 108, 108]) = true := by kernel_rfl
theorem keyCounted : keySign (bs [99, 111, 117, 110, 116, 101, 100]) = true := by kernel_rfl
theorem keyLock : keySign (bs [108, 111, 99, 107]) = true := by kernel_rfl
theorem keyGuard : keySign (bs [103, 117, 97, 114, 100]) = true := by kernel_rfl
def withCells : List Value := [.string (bs [99, 111, 117, 110, 116, 101, 100]), .string (bs [108, 111, 99, 107]), .string (bs [103, 117, 97, 114, 100])]

theorem sort_leaf {l : List Tok} (h : isT (hdT l) (bs [111, 119, 110]) = true ∨ isT (hdT l) (bs [99, 101, 108, 108]) = true) : sortP l = .ok (.mk 2 (hdT l).text 0 (hdT l).place [], l.tail) := by
  unfold sortP expectP
  have e : ([bs [111, 119, 110], bs [99, 101, 108, 108], bs [99, 111, 117, 110, 116, 101, 100], bs [108, 111, 99, 107], bs [103, 117, 97, 114, 100]].any (isT (hdT l))) = true := by rcases h with h | h <;> simp [h]
  rw [e]
  show bd (Except.ok (hdT l, l.tail)) _ = _
  unfold bd
  simp only
  have e2 : (isT (hdT l) (bs [111, 119, 110]) || isT (hdT l) (bs [99, 101, 108, 108])) = true := by rcases h with h | h <;> simp [h]
  rw [e2]
  rfl
theorem sort_with {l : List Tok} (s : ByteArray) (hs : s ∈ [bs [99, 111, 117, 110, 116, 101, 100], bs [108, 111, 99, 107], bs [103, 117, 97, 114, 100]]) (h : isT (hdT l) s = true) : sortP l = bd (nameTermP l.tail) fun a l2 => .ok (.mk 2 (hdT l).text 0 (hdT l).place [a], l2) := by
  unfold sortP expectP
  have e : ([bs [111, 119, 110], bs [99, 101, 108, 108], bs [99, 111, 117, 110, 116, 101, 100], bs [108, 111, 99, 107], bs [103, 117, 97, 114, 100]].any (isT (hdT l))) = true := by
    refine List.any_eq_true.2 ⟨s, ?_, h⟩
    simp only [List.mem_cons] at hs ⊢
    exact .inr (.inr hs)
  rw [e]
  show bd (Except.ok (hdT l, l.tail)) _ = _
  unfold bd
  simp only
  have e2 : (isT (hdT l) (bs [111, 119, 110]) || isT (hdT l) (bs [99, 101, 108, 108])) = false := by
    simp only [List.mem_cons, List.not_mem_nil, or_false] at hs
    rcases hs with rfl | rfl | rfl
    · rw [isT_not h (b := bs [111, 119, 110]) (by kernel_rfl), isT_not h (b := bs [99, 101, 108, 108]) (by kernel_rfl)]; rfl
    · rw [isT_not h (b := bs [111, 119, 110]) (by kernel_rfl), isT_not h (b := bs [99, 101, 108, 108]) (by kernel_rfl)]; rfl
    · rw [isT_not h (b := bs [111, 119, 110]) (by kernel_rfl), isT_not h (b := bs [99, 101, 108, 108]) (by kernel_rfl)]; rfl
  rw [e2]
  rfl
theorem sort_no {l : List Tok} (h0 : isT (hdT l) (bs [111, 119, 110]) = false) (h1 : isT (hdT l) (bs [99, 101, 108, 108]) = false) (h2 : isT (hdT l) (bs [99, 111, 117, 110, 116, 101, 100]) = false) (h3 : isT (hdT l) (bs [108, 111, 99, 107]) = false) (h4 : isT (hdT l) (bs [103, 117, 97, 114, 100]) = false) : sortP l = .error ((hdT l).place, 20) := by
  unfold sortP expectP
  simp [h0, h1, h2, h3, h4, bd]

set_option maxRecDepth 100000 in
set_option maxHeartbeats 4000000 in
theorem rsort_tot {E : Env} {w : World} {l : List Tok} {d : Nat} {f : Int} {q : Nat} (h : RSt E w l d f q) :
    Calls Tryd.prog 59 #[.pointer (some ⟨E.pb, 0, none⟩)] w (RTot E w d l f q (sortP l)) := by
  have H := Lib.hid h
  have hplt := h.plt
  have htlt := h.tlt
  have c0 : w.cell? ⟨E.pb, 0, none⟩ = some (.slice (some ⟨E.tb, 0, none⟩) E.ts.length E.cap) := h.blk.cell 0
  have c1 : w.cell? ⟨E.pb, 1, none⟩ = some (.int .i64 ((E.ts.length - l.length : Nat) : Int)) := h.blk.cell 1
  obtain ⟨t0, t1, t2, t3⟩ := h.tok
  have hk : E.ts.length - l.length < E.ts.length := by have := h.head.1; have := h.le; omega
  have hlen := h.len
  have hcap := h.capb
  have ix1 : (0 : Int) ≤ ((E.ts.length - l.length : Nat) : Int) := by omega
  have ix2 : (((E.ts.length - l.length : Nat) : Int)) < (E.ts.length : Int) := by omega
  generalize E.ts.length - l.length = k at *
  generalize hT : hdT l = tk at *
  have HT := Lib.hid hT
  clear h hT t0 t2
  go_enter Tryd.func59, Tryd.ntmps59
  go_wp2_with fail
  go_region_held3 (fun w' => w'.cell? ⟨E.pb, 0, none⟩ = some (.slice (some ⟨E.tb, 0, none⟩) E.ts.length E.cap) ∧ w'.cell? ⟨E.pb, 1, none⟩ = some (.int .i64 (k : Int)) ∧ w'.cell? ⟨E.tb, k * 4 + 1, none⟩ = some (.string tk.text) ∧ w'.cell? ⟨E.tb, k * 4 + 3, none⟩ = some (.int .i64 tk.place))
    (first | go_keep)
    (fail)
  obtain ⟨hs0, hbr0, hbn0, hkp0⟩ := start2 H.out (nodeCells (T.mk 2 tk.text 0 tk.place []) (.slice none 0 0))
  have H0 := Lib.hid hs0
  have HBr0 := Lib.hid hbr0
  have HBn0 := Lib.hid hbn0
  have HK0 := Lib.hid hkp0
  have hzn0 := hbn0.lt
  clear hs0 hbr0 hbn0 hkp0 c0 c1 t1 t3
  go_wp2_with fail
  refine (rhas_tot H0.out (bs [111, 119, 110]) keyOwn (by decide)).mono ?_
  rintro e w1 ⟨b1, l1, rfl, hs1, hp1, hc1⟩
  have HBr1 := Lib.hid (HBr0.out.kp hp1 (by omega))
  have HBn1 := Lib.hid (HBn0.out.kp hp1 (by omega))
  have HK1 := Lib.hid (HK0.out.trans hp1)
  have hzr1 := HBr1.out.lt
  have hzn1 := HBn1.out.lt
  have H1 := Lib.hid hs1
  have HC1 := Lib.hid hc1
  clear hs1 hp1 hc1
  rcases HC1.out with ⟨rfl, hf1, hi1, rfl⟩ | ⟨rfl, hx1, rfl⟩
  · go_wp2_with (first | ((with_reducible refine at_ld 31 (.tmp 3) ?_); refine wpList_load_node rfl 31 (.tmp 3) rfl (w.heap.size + 1) (T.mk 2 tk.text 0 tk.place []) (.slice none 0 0) rfl HBn1.out Tryd.underlying31 rfl Tryd.sizeRef ?_) | ((with_reducible refine at_st 31 (.tmp 2) ?_); refine wpList_store_blk rfl 31 (.tmp 2) (.tmp 36) rfl w.heap.size (nodeCells (T.mk 2 tk.text 0 tk.place []) (.slice none 0 0)) rfl rfl HBr1.out Tryd.sizeRef rfl (nodeCells_one _ _ rfl) ?_))
    exact ret_blk (cs := nodeCells (T.mk 2 tk.text 0 tk.place []) (.slice none 0 0)) Tryd.results59 rfl HBr1.out Tryd.underlying31 rfl Tryd.sizeRef rfl
      ⟨(T.mk 2 tk.text 0 tk.place []), _, l.tail, f, q, rfl, ((KAt.nil 31 _ (fun b => w.heap.size < b)).setRow w.heap.size _ (fun b hb => by omega)).mono (fun b hb _ => by omega), by show 0 ≤ 40000; decide, H1.out.same (by simp [World.setRow]) (setRow_other _ _ _ _ (by omega)) (setRow_other _ _ _ _ (by omega)), HK1.out.setRow (Nat.le_refl _) _, Sees.turn (fun _ => sort_leaf (.inl hi1)) (by rw [HT.out]; exact Sees.take hf1 _)⟩
  · go_wp2_with fail
    refine (rhas_tot H1.out (bs [99, 101, 108, 108]) keyCell (by decide)).mono ?_
    rintro e w2 ⟨b2, l2, rfl, hs2, hp2, hc2⟩
    have HBr2 := Lib.hid (HBr1.out.kp hp2 (by omega))
    have HBn2 := Lib.hid (HBn1.out.kp hp2 (by omega))
    have HK2 := Lib.hid (HK1.out.trans hp2)
    have hzr2 := HBr2.out.lt
    have hzn2 := HBn2.out.lt
    have H2 := Lib.hid hs2
    have HC2 := Lib.hid hc2
    clear hs2 hp2 hc2
    rcases HC2.out with ⟨rfl, hf2, hi2, rfl⟩ | ⟨rfl, hx2, rfl⟩
    · go_wp2_with (first | ((with_reducible refine at_ld 31 (.tmp 3) ?_); refine wpList_load_node rfl 31 (.tmp 3) rfl (w.heap.size + 1) (T.mk 2 tk.text 0 tk.place []) (.slice none 0 0) rfl HBn2.out Tryd.underlying31 rfl Tryd.sizeRef ?_) | ((with_reducible refine at_st 31 (.tmp 2) ?_); refine wpList_store_blk rfl 31 (.tmp 2) (.tmp 40) rfl w.heap.size (nodeCells (T.mk 2 tk.text 0 tk.place []) (.slice none 0 0)) rfl rfl HBr2.out Tryd.sizeRef rfl (nodeCells_one _ _ rfl) ?_))
      exact ret_blk (cs := nodeCells (T.mk 2 tk.text 0 tk.place []) (.slice none 0 0)) Tryd.results59 rfl HBr2.out Tryd.underlying31 rfl Tryd.sizeRef rfl
        ⟨(T.mk 2 tk.text 0 tk.place []), _, l1.tail, f, q, rfl, ((KAt.nil 31 _ (fun b => w.heap.size < b)).setRow w.heap.size _ (fun b hb => by omega)).mono (fun b hb _ => by omega), by show 0 ≤ 40000; decide, H2.out.same (by simp [World.setRow]) (setRow_other _ _ _ _ (by omega)) (setRow_other _ _ _ _ (by omega)), HK2.out.setRow (Nat.le_refl _) _, Sees.turn (fun _ => sort_leaf (.inr hi2)) (by rw [HT.out]; exact Sees.take hf2 _)⟩
    · go_wp2_with fail
      refine wp_loop_rounds 4 ?_
      rw [rounds_succ]
      go_wp2_with fail
      have HBs2 := Lib.hid (Blk.new w2 withCells 9)
      refine (rhas_tot (H2.out.alloc _) (bs [99, 111, 117, 110, 116, 101, 100]) keyCounted (by decide)).mono ?_
      rintro e w3 ⟨b3, l3, rfl, hs3, hp3, hc3⟩
      have HBr3 := Lib.hid ((HBr2.out.alloc _).kp hp3 (by omega))
      have HBn3 := Lib.hid ((HBn2.out.alloc _).kp hp3 (by omega))
      have HBs3 := Lib.hid (HBs2.out.kp hp3 (by omega))
      have HK3 := Lib.hid ((HK2.out.alloc _).trans hp3)
      have hzr3 := HBr3.out.lt
      have hzn3 := HBn3.out.lt
      have hzs3 := HBs3.out.lt
      have H3 := Lib.hid hs3
      have HC3 := Lib.hid hc3
      clear hs3 hp3 hc3
      rcases HC3.out with ⟨rfl, hf3, hi3, rfl⟩ | ⟨rfl, hx3, rfl⟩
      · go_wp2_with fail
        refine (rname_tot H3.out).mono ?_
        rintro e w4 ⟨t4, vt4, l4, f4, q4, rfl, hk4, hn4, hs4, hp4, hsee4⟩
        have HBr4 := Lib.hid (HBr3.out.kp hp4 (by omega))
        have HBn4 := Lib.hid (HBn3.out.kp hp4 (by omega))
        have HBs4 := Lib.hid (HBs3.out.kp hp4 (by omega))
        have HK4 := Lib.hid (HK3.out.trans hp4)
        have hzr4 := HBr4.out.lt
        have hzn4 := HBn4.out.lt
        have hzs4 := HBs4.out.lt
        have HVt44 := Lib.hid (show KAt 31 w4 t4.kids (fun b => w.heap.size < b ∧ b ≠ w.heap.size + 1) vt4 from hk4.mono (fun b hb _ => by (try simp at hb); omega))
        have H4 := Lib.hid hs4
        have HS4 := Lib.hid hsee4
        clear hk4 hs4 hp4 hsee4
        unfold NodeV
        have n4 : w4.cell? ⟨(w.heap.size + 1), 4, none⟩ = some (.slice none 0 0) := HBn4.out.cell 4
        have nf4 := HBn4.out.frozen 4
        go_wp2_with (first | ((with_reducible refine at_st 31 (.tmp 9) ?_); refine wpList_store_new rfl 31 (.tmp 9) (.tmp 56) rfl (nodeCells t4 vt4) (old := zeroNodeCells) rfl rfl Tryd.sizeRef rfl (nodeCells_one _ _ HVt44.out.one) ?_) | ((with_reducible refine at_ld 31 (.tmp 9) ?_); refine wpList_load_node rfl 31 (.tmp 9) rfl w4.heap.size t4 vt4 rfl (Blk.new w4 _ _) Tryd.underlying31 rfl Tryd.sizeRef ?_) | ((with_reducible refine at_ld 31 (.tmp 3) ?_); refine wpList_load_node rfl 31 (.tmp 3) rfl (w.heap.size + 1) (T.mk 2 tk.text 0 tk.place [t4]) (.slice (some ⟨w4.heap.size + 1, 0, none⟩) 1 1) rfl (((HBn4.out.setSame 4 _).alloc _).alloc _) Tryd.underlying31 rfl Tryd.sizeRef ?_) | ((with_reducible refine at_st 31 (.tmp 2) ?_); refine wpList_store_blk rfl 31 (.tmp 2) (.tmp 60) rfl w.heap.size (nodeCells (T.mk 2 tk.text 0 tk.place [t4]) (.slice (some ⟨w4.heap.size + 1, 0, none⟩) 1 1)) rfl rfl (((HBr4.out.setOther ⟨(w.heap.size + 1), 4, none⟩ _ (by (try dsimp only); omega)).alloc _).alloc _) Tryd.sizeRef rfl (nodeCells_one _ _ rfl) ?_))
        have hk1 := KAt.lit1 (e := 31) (w := ((w4.setCell ⟨(w.heap.size + 1), 4, none⟩ (.slice (some ⟨w4.heap.size + 1, 0, none⟩) 1 1)).alloc (.cells (nodeCells t4 vt4).toArray 31))) (t := t4) (S := (fun b => w.heap.size < b ∧ b ≠ w.heap.size + 1)) (TAt.of_kids ((HVt44.out.setCell ⟨(w.heap.size + 1), 4, none⟩ (.slice (some ⟨w4.heap.size + 1, 0, none⟩) 1 1) (fun b hb => by (try dsimp only); omega)).alloc _)) (by simp only [World.size_alloc, World.size_setCell]; omega)
        rw [show ((w4.setCell ⟨(w.heap.size + 1), 4, none⟩ (.slice (some ⟨w4.heap.size + 1, 0, none⟩) 1 1)).alloc (.cells (nodeCells t4 vt4).toArray 31)).heap.size = w4.heap.size + 1 by simp] at hk1
        have HVx4 := Lib.hid hk1
        clear hk1 n4 nf4
        exact ret_blk (cs := nodeCells (T.mk 2 tk.text 0 tk.place [t4]) (.slice (some ⟨w4.heap.size + 1, 0, none⟩) 1 1)) Tryd.results59 rfl (((HBr4.out.setOther ⟨(w.heap.size + 1), 4, none⟩ _ (by (try dsimp only); omega)).alloc _).alloc _) Tryd.underlying31 rfl Tryd.sizeRef rfl
          ⟨(T.mk 2 tk.text 0 tk.place [t4]), _, l4, f4, q4, rfl, (HVx4.out.setRow w.heap.size _ (fun b hb => by omega)).mono (fun b hb _ => by omega), by show 1 ≤ 40000; decide, (((H4.out.far ⟨(w.heap.size + 1), 4, none⟩ _ (by (try dsimp only); omega) (by (try dsimp only); omega)).alloc _).alloc _).same (by simp [World.setRow]) (setRow_other _ _ _ _ (by omega)) (setRow_other _ _ _ _ (by omega)), (((HK4.out.setNew (p := ⟨(w.heap.size + 1), 4, none⟩) (by (try dsimp only); omega) _).alloc _).alloc _).setRow (Nat.le_refl _) _, Sees.turn (fun _ => sort_with (bs [99, 111, 117, 110, 116, 101, 100]) (by simp) hi3) (by rw [HT.out]; exact Sees.behind hf3 (HS4.out.andThen (Sees.done _ _ _ _)))⟩
      · have s0 : w3.cell? ⟨w2.heap.size, 0, none⟩ = some (.string (bs [99, 111, 117, 110, 116, 101, 100])) := HBs3.out.cell 0
        have s1 : w3.cell? ⟨w2.heap.size, 1, none⟩ = some (.string (bs [108, 111, 99, 107])) := HBs3.out.cell 1
        have s2 : w3.cell? ⟨w2.heap.size, 2, none⟩ = some (.string (bs [103, 117, 97, 114, 100])) := HBs3.out.cell 2
        go_wp2_with fail
        rw [rounds_succ]
        go_wp2_with fail
        clear s0 s1 s2
        refine (rhas_tot H3.out (bs [108, 111, 99, 107]) keyLock (by decide)).mono ?_
        rintro e w4 ⟨b4, l4, rfl, hs4, hp4, hc4⟩
        have HBr4 := Lib.hid (HBr3.out.kp hp4 (by omega))
        have HBn4 := Lib.hid (HBn3.out.kp hp4 (by omega))
        have HBs4 := Lib.hid (HBs3.out.kp hp4 (by omega))
        have HK4 := Lib.hid (HK3.out.trans hp4)
        have hzr4 := HBr4.out.lt
        have hzn4 := HBn4.out.lt
        have hzs4 := HBs4.out.lt
        have H4 := Lib.hid hs4
        have HC4 := Lib.hid hc4
        clear hs4 hp4 hc4
        rcases HC4.out with ⟨rfl, hf4, hi4, rfl⟩ | ⟨rfl, hx4, rfl⟩
        · go_wp2_with fail
          refine (rname_tot H4.out).mono ?_
          rintro e w5 ⟨t5, vt5, l5, f5, q5, rfl, hk5, hn5, hs5, hp5, hsee5⟩
          have HBr5 := Lib.hid (HBr4.out.kp hp5 (by omega))
          have HBn5 := Lib.hid (HBn4.out.kp hp5 (by omega))
          have HBs5 := Lib.hid (HBs4.out.kp hp5 (by omega))
          have HK5 := Lib.hid (HK4.out.trans hp5)
          have hzr5 := HBr5.out.lt
          have hzn5 := HBn5.out.lt
          have hzs5 := HBs5.out.lt
          have HVt55 := Lib.hid (show KAt 31 w5 t5.kids (fun b => w.heap.size < b ∧ b ≠ w.heap.size + 1) vt5 from hk5.mono (fun b hb _ => by (try simp at hb); omega))
          have H5 := Lib.hid hs5
          have HS5 := Lib.hid hsee5
          clear hk5 hs5 hp5 hsee5
          unfold NodeV
          have n4 : w5.cell? ⟨(w.heap.size + 1), 4, none⟩ = some (.slice none 0 0) := HBn5.out.cell 4
          have nf4 := HBn5.out.frozen 4
          go_wp2_with (first | ((with_reducible refine at_st 31 (.tmp 9) ?_); refine wpList_store_new rfl 31 (.tmp 9) (.tmp 56) rfl (nodeCells t5 vt5) (old := zeroNodeCells) rfl rfl Tryd.sizeRef rfl (nodeCells_one _ _ HVt55.out.one) ?_) | ((with_reducible refine at_ld 31 (.tmp 9) ?_); refine wpList_load_node rfl 31 (.tmp 9) rfl w5.heap.size t5 vt5 rfl (Blk.new w5 _ _) Tryd.underlying31 rfl Tryd.sizeRef ?_) | ((with_reducible refine at_ld 31 (.tmp 3) ?_); refine wpList_load_node rfl 31 (.tmp 3) rfl (w.heap.size + 1) (T.mk 2 tk.text 0 tk.place [t5]) (.slice (some ⟨w5.heap.size + 1, 0, none⟩) 1 1) rfl (((HBn5.out.setSame 4 _).alloc _).alloc _) Tryd.underlying31 rfl Tryd.sizeRef ?_) | ((with_reducible refine at_st 31 (.tmp 2) ?_); refine wpList_store_blk rfl 31 (.tmp 2) (.tmp 60) rfl w.heap.size (nodeCells (T.mk 2 tk.text 0 tk.place [t5]) (.slice (some ⟨w5.heap.size + 1, 0, none⟩) 1 1)) rfl rfl (((HBr5.out.setOther ⟨(w.heap.size + 1), 4, none⟩ _ (by (try dsimp only); omega)).alloc _).alloc _) Tryd.sizeRef rfl (nodeCells_one _ _ rfl) ?_))
          have hk1 := KAt.lit1 (e := 31) (w := ((w5.setCell ⟨(w.heap.size + 1), 4, none⟩ (.slice (some ⟨w5.heap.size + 1, 0, none⟩) 1 1)).alloc (.cells (nodeCells t5 vt5).toArray 31))) (t := t5) (S := (fun b => w.heap.size < b ∧ b ≠ w.heap.size + 1)) (TAt.of_kids ((HVt55.out.setCell ⟨(w.heap.size + 1), 4, none⟩ (.slice (some ⟨w5.heap.size + 1, 0, none⟩) 1 1) (fun b hb => by (try dsimp only); omega)).alloc _)) (by simp only [World.size_alloc, World.size_setCell]; omega)
          rw [show ((w5.setCell ⟨(w.heap.size + 1), 4, none⟩ (.slice (some ⟨w5.heap.size + 1, 0, none⟩) 1 1)).alloc (.cells (nodeCells t5 vt5).toArray 31)).heap.size = w5.heap.size + 1 by simp] at hk1
          have HVx5 := Lib.hid hk1
          clear hk1 n4 nf4
          exact ret_blk (cs := nodeCells (T.mk 2 tk.text 0 tk.place [t5]) (.slice (some ⟨w5.heap.size + 1, 0, none⟩) 1 1)) Tryd.results59 rfl (((HBr5.out.setOther ⟨(w.heap.size + 1), 4, none⟩ _ (by (try dsimp only); omega)).alloc _).alloc _) Tryd.underlying31 rfl Tryd.sizeRef rfl
            ⟨(T.mk 2 tk.text 0 tk.place [t5]), _, l5, f5, q5, rfl, (HVx5.out.setRow w.heap.size _ (fun b hb => by omega)).mono (fun b hb _ => by omega), by show 1 ≤ 40000; decide, (((H5.out.far ⟨(w.heap.size + 1), 4, none⟩ _ (by (try dsimp only); omega) (by (try dsimp only); omega)).alloc _).alloc _).same (by simp [World.setRow]) (setRow_other _ _ _ _ (by omega)) (setRow_other _ _ _ _ (by omega)), (((HK5.out.setNew (p := ⟨(w.heap.size + 1), 4, none⟩) (by (try dsimp only); omega) _).alloc _).alloc _).setRow (Nat.le_refl _) _, Sees.turn (fun _ => sort_with (bs [108, 111, 99, 107]) (by simp) hi4) (by rw [HT.out]; exact Sees.behind hf4 (HS5.out.andThen (Sees.done _ _ _ _)))⟩
        · have s0 : w4.cell? ⟨w2.heap.size, 0, none⟩ = some (.string (bs [99, 111, 117, 110, 116, 101, 100])) := HBs4.out.cell 0
          have s1 : w4.cell? ⟨w2.heap.size, 1, none⟩ = some (.string (bs [108, 111, 99, 107])) := HBs4.out.cell 1
          have s2 : w4.cell? ⟨w2.heap.size, 2, none⟩ = some (.string (bs [103, 117, 97, 114, 100])) := HBs4.out.cell 2
          go_wp2_with fail
          rw [rounds_succ]
          go_wp2_with fail
          clear s0 s1 s2
          refine (rhas_tot H4.out (bs [103, 117, 97, 114, 100]) keyGuard (by decide)).mono ?_
          rintro e w5 ⟨b5, l5, rfl, hs5, hp5, hc5⟩
          have HBr5 := Lib.hid (HBr4.out.kp hp5 (by omega))
          have HBn5 := Lib.hid (HBn4.out.kp hp5 (by omega))
          have HBs5 := Lib.hid (HBs4.out.kp hp5 (by omega))
          have HK5 := Lib.hid (HK4.out.trans hp5)
          have hzr5 := HBr5.out.lt
          have hzn5 := HBn5.out.lt
          have hzs5 := HBs5.out.lt
          have H5 := Lib.hid hs5
          have HC5 := Lib.hid hc5
          clear hs5 hp5 hc5
          rcases HC5.out with ⟨rfl, hf5, hi5, rfl⟩ | ⟨rfl, hx5, rfl⟩
          · go_wp2_with fail
            refine (rname_tot H5.out).mono ?_
            rintro e w6 ⟨t6, vt6, l6, f6, q6, rfl, hk6, hn6, hs6, hp6, hsee6⟩
            have HBr6 := Lib.hid (HBr5.out.kp hp6 (by omega))
            have HBn6 := Lib.hid (HBn5.out.kp hp6 (by omega))
            have HBs6 := Lib.hid (HBs5.out.kp hp6 (by omega))
            have HK6 := Lib.hid (HK5.out.trans hp6)
            have hzr6 := HBr6.out.lt
            have hzn6 := HBn6.out.lt
            have hzs6 := HBs6.out.lt
            have HVt66 := Lib.hid (show KAt 31 w6 t6.kids (fun b => w.heap.size < b ∧ b ≠ w.heap.size + 1) vt6 from hk6.mono (fun b hb _ => by (try simp at hb); omega))
            have H6 := Lib.hid hs6
            have HS6 := Lib.hid hsee6
            clear hk6 hs6 hp6 hsee6
            unfold NodeV
            have n4 : w6.cell? ⟨(w.heap.size + 1), 4, none⟩ = some (.slice none 0 0) := HBn6.out.cell 4
            have nf4 := HBn6.out.frozen 4
            go_wp2_with (first | ((with_reducible refine at_st 31 (.tmp 9) ?_); refine wpList_store_new rfl 31 (.tmp 9) (.tmp 56) rfl (nodeCells t6 vt6) (old := zeroNodeCells) rfl rfl Tryd.sizeRef rfl (nodeCells_one _ _ HVt66.out.one) ?_) | ((with_reducible refine at_ld 31 (.tmp 9) ?_); refine wpList_load_node rfl 31 (.tmp 9) rfl w6.heap.size t6 vt6 rfl (Blk.new w6 _ _) Tryd.underlying31 rfl Tryd.sizeRef ?_) | ((with_reducible refine at_ld 31 (.tmp 3) ?_); refine wpList_load_node rfl 31 (.tmp 3) rfl (w.heap.size + 1) (T.mk 2 tk.text 0 tk.place [t6]) (.slice (some ⟨w6.heap.size + 1, 0, none⟩) 1 1) rfl (((HBn6.out.setSame 4 _).alloc _).alloc _) Tryd.underlying31 rfl Tryd.sizeRef ?_) | ((with_reducible refine at_st 31 (.tmp 2) ?_); refine wpList_store_blk rfl 31 (.tmp 2) (.tmp 60) rfl w.heap.size (nodeCells (T.mk 2 tk.text 0 tk.place [t6]) (.slice (some ⟨w6.heap.size + 1, 0, none⟩) 1 1)) rfl rfl (((HBr6.out.setOther ⟨(w.heap.size + 1), 4, none⟩ _ (by (try dsimp only); omega)).alloc _).alloc _) Tryd.sizeRef rfl (nodeCells_one _ _ rfl) ?_))
            have hk1 := KAt.lit1 (e := 31) (w := ((w6.setCell ⟨(w.heap.size + 1), 4, none⟩ (.slice (some ⟨w6.heap.size + 1, 0, none⟩) 1 1)).alloc (.cells (nodeCells t6 vt6).toArray 31))) (t := t6) (S := (fun b => w.heap.size < b ∧ b ≠ w.heap.size + 1)) (TAt.of_kids ((HVt66.out.setCell ⟨(w.heap.size + 1), 4, none⟩ (.slice (some ⟨w6.heap.size + 1, 0, none⟩) 1 1) (fun b hb => by (try dsimp only); omega)).alloc _)) (by simp only [World.size_alloc, World.size_setCell]; omega)
            rw [show ((w6.setCell ⟨(w.heap.size + 1), 4, none⟩ (.slice (some ⟨w6.heap.size + 1, 0, none⟩) 1 1)).alloc (.cells (nodeCells t6 vt6).toArray 31)).heap.size = w6.heap.size + 1 by simp] at hk1
            have HVx6 := Lib.hid hk1
            clear hk1 n4 nf4
            exact ret_blk (cs := nodeCells (T.mk 2 tk.text 0 tk.place [t6]) (.slice (some ⟨w6.heap.size + 1, 0, none⟩) 1 1)) Tryd.results59 rfl (((HBr6.out.setOther ⟨(w.heap.size + 1), 4, none⟩ _ (by (try dsimp only); omega)).alloc _).alloc _) Tryd.underlying31 rfl Tryd.sizeRef rfl
              ⟨(T.mk 2 tk.text 0 tk.place [t6]), _, l6, f6, q6, rfl, (HVx6.out.setRow w.heap.size _ (fun b hb => by omega)).mono (fun b hb _ => by omega), by show 1 ≤ 40000; decide, (((H6.out.far ⟨(w.heap.size + 1), 4, none⟩ _ (by (try dsimp only); omega) (by (try dsimp only); omega)).alloc _).alloc _).same (by simp [World.setRow]) (setRow_other _ _ _ _ (by omega)) (setRow_other _ _ _ _ (by omega)), (((HK6.out.setNew (p := ⟨(w.heap.size + 1), 4, none⟩) (by (try dsimp only); omega) _).alloc _).alloc _).setRow (Nat.le_refl _) _, Sees.turn (fun _ => sort_with (bs [103, 117, 97, 114, 100]) (by simp) hi5) (by rw [HT.out]; exact Sees.behind hf5 (HS6.out.andThen (Sees.done _ _ _ _)))⟩
          · have s0 : w5.cell? ⟨w2.heap.size, 0, none⟩ = some (.string (bs [99, 111, 117, 110, 116, 101, 100])) := HBs5.out.cell 0
            have s1 : w5.cell? ⟨w2.heap.size, 1, none⟩ = some (.string (bs [108, 111, 99, 107])) := HBs5.out.cell 1
            have s2 : w5.cell? ⟨w2.heap.size, 2, none⟩ = some (.string (bs [103, 117, 97, 114, 100])) := HBs5.out.cell 2
            go_wp2_with fail
            rw [rounds_succ]
            go_wp2_with fail
            clear s0 s1 s2
            refine (rfail_tot H5.out 20 (by decide)).mono ?_
            rintro e w6 ⟨f6, q6, rfl, hs6, hp6, _, hsee6⟩
            have HBr6 := Lib.hid (HBr5.out.kp hp6 (by omega))
            have HBn6 := Lib.hid (HBn5.out.kp hp6 (by omega))
            have HBs6 := Lib.hid (HBs5.out.kp hp6 (by omega))
            have HK6 := Lib.hid (HK5.out.trans hp6)
            have hzr6 := HBr6.out.lt
            have hzn6 := HBn6.out.lt
            have hzs6 := HBs6.out.lt
            have H6 := Lib.hid hs6
            have HS6 := Lib.hid (hsee6 (T.mk 2 tk.text 0 tk.place []))
            clear hs6 hp6 hsee6
            go_wp2_with (first | ((with_reducible refine at_ld 31 (.tmp 3) ?_); refine wpList_load_node rfl 31 (.tmp 3) rfl (w.heap.size + 1) (T.mk 2 tk.text 0 tk.place []) (.slice none 0 0) rfl HBn6.out Tryd.underlying31 rfl Tryd.sizeRef ?_) | ((with_reducible refine at_st 31 (.tmp 2) ?_); refine wpList_store_blk rfl 31 (.tmp 2) (.tmp 63) rfl w.heap.size (nodeCells (T.mk 2 tk.text 0 tk.place []) (.slice none 0 0)) rfl rfl HBr6.out Tryd.sizeRef rfl (nodeCells_one _ _ rfl) ?_))
            exact ret_blk (cs := nodeCells (T.mk 2 tk.text 0 tk.place []) (.slice none 0 0)) Tryd.results59 rfl HBr6.out Tryd.underlying31 rfl Tryd.sizeRef rfl
              ⟨(T.mk 2 tk.text 0 tk.place []), _, l5, f6, q6, rfl, ((KAt.nil 31 _ (fun b => w.heap.size < b)).setRow w.heap.size _ (fun b hb => by omega)).mono (fun b hb _ => by omega), by show 0 ≤ 40000; decide, H6.out.same (by simp [World.setRow]) (setRow_other _ _ _ _ (by omega)) (setRow_other _ _ _ _ (by omega)), HK6.out.setRow (Nat.le_refl _) _, Sees.turn (fun hf => sort_no (no_is hx1 hf) (no_is hx2 hf) (no_is hx3 hf) (no_is hx4 hf) (no_is hx5 hf)) HS6.out⟩

end Go.Proofs.YtnmpfpnldcgbaaaDoor
