/- The contract of lychgateref02.mode. -/
import Derived.Test.YtnmpfpnldcgbaaaDoorRefField
import Derived.Deep.RegionHeld3
namespace Go.Proofs.YtnmpfpnldcgbaaaDoor
open Go.RowKit

def T.setText (s : ByteArray) (t : T) : T := .mk t.kind s t.num t.place t.kids
theorem Sees.turn {α : Type} {l l1 : List Tok} {f f1 : Int} {q q1 : Nat} {r r' : R α} {t : α} (he : (f == 0) = true → r = r') (h : Sees l f q r' t l1 f1 q1) : Sees l f q r t l1 f1 q1 := by
  cases hf : (f == 0) with
  | true => rw [he hf]; exact h
  | false => exact h.junk hf
theorem Sees.take {α : Type} {l : List Tok} {f : Int} {q : Nat} (hf : (f == 0) = true) (t : α) : Sees l f q (.ok (t, l.tail)) t l.tail f q :=
  .inl ⟨hf, .inl ⟨_, rfl, rfl, beq_iff_eq.1 hf, rfl, by rw [List.length_tail]; omega⟩⟩
/- Behind a token that was taken. -/
theorem Sees.behind {α : Type} {l l1 : List Tok} {f f1 : Int} {q q1 : Nat} {r : R α} {t : α} (hf : (f == 0) = true) (h : Sees l.tail f q r t l1 f1 q1) : Sees l f q r t l1 f1 q1 := Sees.yes (c := true) (B := r) rfl hf h
theorem no_is {f : Int} {c : Bool} (h : (f == 0 && c) = false) (hf : (f == 0) = true) : c = false := by rw [hf] at h; simpa using h
theorem start2 {E : Env} {w : World} {l : List Tok} {d : Nat} {f : Int} {q : Nat} (h : RSt E w l d f q) (N : List Value) :
    RSt E ((w.alloc (.cells zeroNodeCells.toArray 31)).alloc (.cells N.toArray 31)).drew l d f q ∧ Blk ((w.alloc (.cells zeroNodeCells.toArray 31)).alloc (.cells N.toArray 31)).drew w.heap.size zeroNodeCells 31 ∧
    Blk ((w.alloc (.cells zeroNodeCells.toArray 31)).alloc (.cells N.toArray 31)).drew (w.heap.size + 1) N 31 ∧ Kp E.pb w ((w.alloc (.cells zeroNodeCells.toArray 31)).alloc (.cells N.toArray 31)).drew :=
  ⟨((h.alloc _).alloc _).same (Nat.le_refl _) rfl rfl, (Blk.new w zeroNodeCells 31).alloc _, Blk.new2 w (.cells zeroNodeCells.toArray 31) N 31, (((Kp.refl E.pb w).alloc _).alloc _).drew⟩

/- Two signs are not one token. -/
theorem isT_not {t : Tok} {a b : ByteArray} (h : isT t a = true) (hne : (a.toList == b.toList) = false) : isT t b = false := by
  unfold isT at h ⊢
  rw [beq_iff_eq.1 h]
  exact hne

theorem mode_int {l : List Tok} (h : isT (hdT l) (bs [105, 110, 116]) = true) : modeP l = .ok (.mk 8 (hdT l).text 0 (hdT l).place [], l.tail) := by
  unfold modeP valueModeP expectP
  rw [isT_not h (b := bs [38]) (by kernel_rfl)]
  simp only [cond_false, List.any_cons, List.any_nil, h, Bool.true_or, cond_true]
  show bd (Except.ok (hdT l, l.tail)) _ = _
  unfold bd
  simp only
  rw [isT_not h (b := bs [111, 119, 110]) (by kernel_rfl)]
  rfl
theorem mode_own {l : List Tok} (h : isT (hdT l) (bs [111, 119, 110]) = true) : modeP l = bd (nameTermP l.tail) fun a l2 => .ok (.mk 8 (hdT l).text 0 (hdT l).place [a], l2) := by
  unfold modeP valueModeP expectP
  rw [isT_not h (b := bs [38]) (by kernel_rfl)]
  simp only [cond_false, List.any_cons, List.any_nil, h, Bool.true_or, Bool.or_true, cond_true]
  show bd (Except.ok (hdT l, l.tail)) _ = _
  unfold bd
  simp only [h, cond_true]
theorem mode_ref {l : List Tok} (h1 : isT (hdT l) (bs [105, 110, 116]) = false) (h2 : isT (hdT l) (bs [111, 119, 110]) = false) :
    modeP l = bd (expectP [bs [38]] l) fun _ l1 => bif isT (hdT l1) (bs [109, 117, 116]) then bd (nameTermP l1.tail) fun a l2 => .ok (.mk 8 (bs [38, 109, 117, 116]) 0 (hdT l).place [a], l2) else bd (nameTermP l1) fun a l2 => .ok (.mk 8 (hdT l).text 0 (hdT l).place [a], l2) := by
  unfold modeP valueModeP expectP
  cases h : isT (hdT l) (bs [38]) with
  | false => simp only [cond_false, List.any_cons, List.any_nil, h1, h2, h, Bool.or_self]; rfl
  | true =>
    simp only [cond_true, List.any_cons, List.any_nil, h, Bool.true_or]
    rw [isT_text h]
    rfl

theorem keyInt : keySign (bs [105, 110, 116]) = true := by kernel_rfl
theorem keyOwn : keySign (bs [111, 119, 110]) = true := by kernel_rfl
theorem key38 : keySign (bs [38]) = true := by kernel_rfl
theorem keyMut : keySign (bs [109, 117, 116]) = true := by kernel_rfl

set_option maxRecDepth 100000 in
set_option maxHeartbeats 4000000 in
theorem rmode_tot {E : Env} {w : World} {l : List Tok} {d : Nat} {f : Int} {q : Nat} (h : RSt E w l d f q) :
    Calls Tryd.prog 56 #[.pointer (some ⟨E.pb, 0, none⟩)] w (RTot E w d l f q (modeP l)) := by
  have H := Lib.hid h
  have hplt := h.plt
  have htlt := h.tlt
  have H0 := Lib.hid (h.alloc (.cells zeroNodeCells.toArray 31))
  have HK0 := Lib.hid ((Kp.refl E.pb w).alloc (.cells zeroNodeCells.toArray 31))
  have HBr0 := Lib.hid (Blk.new w zeroNodeCells 31)
  have hzr0 := HBr0.out.lt
  have c0 : w.cell? ⟨E.pb, 0, none⟩ = some (.slice (some ⟨E.tb, 0, none⟩) E.ts.length E.cap) := h.blk.cell 0
  have c1 : w.cell? ⟨E.pb, 1, none⟩ = some (.int .i64 ((E.ts.length - l.length : Nat) : Int)) := h.blk.cell 1
  obtain ⟨t0, t1, t2, t3⟩ := h.tok
  have hk : E.ts.length - l.length < E.ts.length := by have := h.head.1; have := h.le; omega
  have hlen := h.len
  have hcap := h.capb
  have ix1 : (0 : Int) ≤ ((E.ts.length - l.length : Nat) : Int) := by omega
  have ix2 : (((E.ts.length - l.length : Nat) : Int)) < (E.ts.length : Int) := by omega
  generalize E.ts.length - l.length = k at *
  generalize hT : hdT l = tk at *
  have HT := Lib.hid hT
  clear h hT t0 t2
  go_enter Tryd.func56, Tryd.ntmps56
  go_wp2_with fail
  go_region_held3 (fun w' => w'.cell? ⟨E.pb, 0, none⟩ = some (.slice (some ⟨E.tb, 0, none⟩) E.ts.length E.cap) ∧ w'.cell? ⟨E.pb, 1, none⟩ = some (.int .i64 (k : Int)) ∧ w'.cell? ⟨E.tb, k * 4 + 1, none⟩ = some (.string tk.text) ∧ w'.cell? ⟨E.tb, k * 4 + 3, none⟩ = some (.int .i64 tk.place))
    (first | go_keep)
    (fail)
  obtain ⟨hs0, hbr0, hbn0, hkp0⟩ := start2 H.out (nodeCells (T.mk 8 tk.text 0 tk.place []) (.slice none 0 0))
  have H0 := Lib.hid hs0
  have HBr0 := Lib.hid hbr0
  have HBn0 := Lib.hid hbn0
  have HK0 := Lib.hid hkp0
  have hzn0 := hbn0.lt
  clear hs0 hbr0 hbn0 hkp0 c0 c1 t1 t3
  go_wp2_with fail
  refine (rhas_tot H0.out (bs [105, 110, 116]) keyInt (by decide)).mono ?_
  rintro e w1 ⟨b1, l1, rfl, hs1, hp1, hc1⟩
  have HBr1 := Lib.hid (HBr0.out.kp hp1 (by omega))
  have HBn1 := Lib.hid (HBn0.out.kp hp1 (by omega))
  have HK1 := Lib.hid (HK0.out.trans hp1)
  have hzr1 := HBr1.out.lt
  have hzn1 := HBn1.out.lt
  have H1 := Lib.hid hs1
  have HC1 := Lib.hid hc1
  clear hs1 hp1 hc1
  rcases HC1.out with ⟨rfl, hf1, hi1, rfl⟩ | ⟨rfl, hx1, rfl⟩
  · go_wp2_with (first | ((with_reducible refine at_ld 31 (.tmp 3) ?_); refine wpList_load_node rfl 31 (.tmp 3) rfl (w.heap.size + 1) (T.mk 8 tk.text 0 tk.place []) (.slice none 0 0) rfl HBn1.out Tryd.underlying31 rfl Tryd.sizeRef ?_) | ((with_reducible refine at_st 31 (.tmp 2) ?_); refine wpList_store_blk rfl 31 (.tmp 2) (.tmp 34) rfl w.heap.size (nodeCells (T.mk 8 tk.text 0 tk.place []) (.slice none 0 0)) rfl rfl HBr1.out Tryd.sizeRef rfl (nodeCells_one _ _ rfl) ?_))
    exact ret_blk (cs := nodeCells (T.mk 8 tk.text 0 tk.place []) (.slice none 0 0)) Tryd.results56 rfl HBr1.out Tryd.underlying31 rfl Tryd.sizeRef rfl
      ⟨(T.mk 8 tk.text 0 tk.place []), _, l.tail, f, q, rfl, ((KAt.nil 31 _ (fun b => w.heap.size < b)).setRow w.heap.size _ (fun b hb => by omega)).mono (fun b hb _ => by omega), by show 0 ≤ 40000; decide, H1.out.same (by simp [World.setRow]) (setRow_other _ _ _ _ (by omega)) (setRow_other _ _ _ _ (by omega)), HK1.out.setRow (Nat.le_refl _) _, Sees.turn (fun _ => mode_int hi1) (by rw [HT.out]; exact Sees.take hf1 _)⟩
  · go_wp2_with fail
    refine (rhas_tot H1.out (bs [111, 119, 110]) keyOwn (by decide)).mono ?_
    rintro e w2 ⟨b2, l2, rfl, hs2, hp2, hc2⟩
    have HBr2 := Lib.hid (HBr1.out.kp hp2 (by omega))
    have HBn2 := Lib.hid (HBn1.out.kp hp2 (by omega))
    have HK2 := Lib.hid (HK1.out.trans hp2)
    have hzr2 := HBr2.out.lt
    have hzn2 := HBn2.out.lt
    have H2 := Lib.hid hs2
    have HC2 := Lib.hid hc2
    clear hs2 hp2 hc2
    rcases HC2.out with ⟨rfl, hf2, hi2, rfl⟩ | ⟨rfl, hx2, rfl⟩
    · go_wp2_with fail
      refine (rname_tot H2.out).mono ?_
      rintro e w3 ⟨t3, vt3, l3, f3, q3, rfl, hk3, hn3, hs3, hp3, hsee3⟩
      have HBr3 := Lib.hid (HBr2.out.kp hp3 (by omega))
      have HBn3 := Lib.hid (HBn2.out.kp hp3 (by omega))
      have HK3 := Lib.hid (HK2.out.trans hp3)
      have hzr3 := HBr3.out.lt
      have hzn3 := HBn3.out.lt
      have HVt33 := Lib.hid (show KAt 31 w3 t3.kids (fun b => w.heap.size < b ∧ b ≠ w.heap.size + 1) vt3 from hk3.mono (fun b hb _ => by (try simp at hb); omega))
      have H3 := Lib.hid hs3
      have HS3 := Lib.hid hsee3
      clear hk3 hs3 hp3 hsee3
      unfold NodeV
      have n4 : w3.cell? ⟨(w.heap.size + 1), 4, none⟩ = some (.slice none 0 0) := HBn3.out.cell 4
      have nf4 := HBn3.out.frozen 4
      go_wp2_with (first | ((with_reducible refine at_st 31 (.tmp 7) ?_); refine wpList_store_new rfl 31 (.tmp 7) (.tmp 46) rfl (nodeCells t3 vt3) (old := zeroNodeCells) rfl rfl Tryd.sizeRef rfl (nodeCells_one _ _ HVt33.out.one) ?_) | ((with_reducible refine at_ld 31 (.tmp 7) ?_); refine wpList_load_node rfl 31 (.tmp 7) rfl w3.heap.size t3 vt3 rfl (Blk.new w3 _ _) Tryd.underlying31 rfl Tryd.sizeRef ?_) | ((with_reducible refine at_ld 31 (.tmp 3) ?_); refine wpList_load_node rfl 31 (.tmp 3) rfl (w.heap.size + 1) (T.mk 8 tk.text 0 tk.place [t3]) (.slice (some ⟨w3.heap.size + 1, 0, none⟩) 1 1) rfl (((HBn3.out.setSame 4 _).alloc _).alloc _) Tryd.underlying31 rfl Tryd.sizeRef ?_) | ((with_reducible refine at_st 31 (.tmp 2) ?_); refine wpList_store_blk rfl 31 (.tmp 2) (.tmp 50) rfl w.heap.size (nodeCells (T.mk 8 tk.text 0 tk.place [t3]) (.slice (some ⟨w3.heap.size + 1, 0, none⟩) 1 1)) rfl rfl (((HBr3.out.setOther ⟨(w.heap.size + 1), 4, none⟩ _ (by (try dsimp only); omega)).alloc _).alloc _) Tryd.sizeRef rfl (nodeCells_one _ _ rfl) ?_))
      have hk1 := KAt.lit1 (e := 31) (w := ((w3.setCell ⟨(w.heap.size + 1), 4, none⟩ (.slice (some ⟨w3.heap.size + 1, 0, none⟩) 1 1)).alloc (.cells (nodeCells t3 vt3).toArray 31))) (t := t3) (S := (fun b => w.heap.size < b ∧ b ≠ w.heap.size + 1)) (TAt.of_kids ((HVt33.out.setCell ⟨(w.heap.size + 1), 4, none⟩ (.slice (some ⟨w3.heap.size + 1, 0, none⟩) 1 1) (fun b hb => by (try dsimp only); omega)).alloc _)) (by simp only [World.size_alloc, World.size_setCell]; omega)
      rw [show ((w3.setCell ⟨(w.heap.size + 1), 4, none⟩ (.slice (some ⟨w3.heap.size + 1, 0, none⟩) 1 1)).alloc (.cells (nodeCells t3 vt3).toArray 31)).heap.size = w3.heap.size + 1 by simp] at hk1
      have HVx3 := Lib.hid hk1
      clear hk1 n4 nf4
      exact ret_blk (cs := nodeCells (T.mk 8 tk.text 0 tk.place [t3]) (.slice (some ⟨w3.heap.size + 1, 0, none⟩) 1 1)) Tryd.results56 rfl (((HBr3.out.setOther ⟨(w.heap.size + 1), 4, none⟩ _ (by (try dsimp only); omega)).alloc _).alloc _) Tryd.underlying31 rfl Tryd.sizeRef rfl
        ⟨(T.mk 8 tk.text 0 tk.place [t3]), _, l3, f3, q3, rfl, (HVx3.out.setRow w.heap.size _ (fun b hb => by omega)).mono (fun b hb _ => by omega), by show 1 ≤ 40000; decide, (((H3.out.far ⟨(w.heap.size + 1), 4, none⟩ _ (by (try dsimp only); omega) (by (try dsimp only); omega)).alloc _).alloc _).same (by simp [World.setRow]) (setRow_other _ _ _ _ (by omega)) (setRow_other _ _ _ _ (by omega)), (((HK3.out.setNew (p := ⟨(w.heap.size + 1), 4, none⟩) (by (try dsimp only); omega) _).alloc _).alloc _).setRow (Nat.le_refl _) _, Sees.turn (fun _ => mode_own hi2) (by rw [HT.out]; exact Sees.behind hf2 (HS3.out.andThen (Sees.done _ _ _ _)))⟩
    · go_wp2_with fail
      refine (rmust_tot H2.out (bs [38]) key38 (by decide)).mono ?_
      rintro e w3 ⟨l3, f3, q3, rfl, hs3, hp3, tk3, hsee3⟩
      have HBr3 := Lib.hid (HBr2.out.kp hp3 (by omega))
      have HBn3 := Lib.hid (HBn2.out.kp hp3 (by omega))
      have HK3 := Lib.hid (HK2.out.trans hp3)
      have hzr3 := HBr3.out.lt
      have hzn3 := HBn3.out.lt
      have H3 := Lib.hid hs3
      have HS3 := Lib.hid hsee3
      clear hs3 hp3 hsee3
      go_wp2_with fail
      refine (rhas_tot H3.out (bs [109, 117, 116]) keyMut (by decide)).mono ?_
      rintro e w4 ⟨b4, l4, rfl, hs4, hp4, hc4⟩
      have HBr4 := Lib.hid (HBr3.out.kp hp4 (by omega))
      have HBn4 := Lib.hid (HBn3.out.kp hp4 (by omega))
      have HK4 := Lib.hid (HK3.out.trans hp4)
      have hzr4 := HBr4.out.lt
      have hzn4 := HBn4.out.lt
      have H4 := Lib.hid hs4
      have HC4 := Lib.hid hc4
      clear hs4 hp4 hc4
      rcases HC4.out with ⟨rfl, hf4, hi4, rfl⟩ | ⟨rfl, hx4, rfl⟩
      · have m1 : w4.cell? ⟨w.heap.size + 1, 1, none⟩ = some (.string tk.text) := HBn4.out.cell 1
        have mf1 := HBn4.out.frozen 1
        go_wp2_with fail
        clear m1 mf1
        refine (rname_tot (H4.out.far ⟨(w.heap.size + 1), 1, none⟩ _ (by (try dsimp only); omega) (by (try dsimp only); omega))).mono ?_
        rintro e w5 ⟨t5, vt5, l5, f5, q5, rfl, hk5, hn5, hs5, hp5, hsee5⟩
        have HBr5 := Lib.hid ((HBr4.out.setOther ⟨(w.heap.size + 1), 1, none⟩ _ (by (try dsimp only); omega)).kp hp5 (by omega))
        have HBn5 := Lib.hid ((HBn4.out.setSame 1 _).kp hp5 (by omega))
        have HK5 := Lib.hid ((HK4.out.setNew (p := ⟨(w.heap.size + 1), 1, none⟩) (by (try dsimp only); omega) _).trans hp5)
        have hzr5 := HBr5.out.lt
        have hzn5 := HBn5.out.lt
        have HVt55 := Lib.hid (show KAt 31 w5 t5.kids (fun b => w.heap.size < b ∧ b ≠ w.heap.size + 1) vt5 from hk5.mono (fun b hb _ => by (try simp at hb); omega))
        have H5 := Lib.hid hs5
        have HS5 := Lib.hid hsee5
        clear hk5 hs5 hp5 hsee5
        unfold NodeV
        have n4 : w5.cell? ⟨(w.heap.size + 1), 4, none⟩ = some (.slice none 0 0) := HBn5.out.cell 4
        have nf4 := HBn5.out.frozen 4
        go_wp2_with (first | ((with_reducible refine at_st 31 (.tmp 7) ?_); refine wpList_store_new rfl 31 (.tmp 7) (.tmp 46) rfl (nodeCells t5 vt5) (old := zeroNodeCells) rfl rfl Tryd.sizeRef rfl (nodeCells_one _ _ HVt55.out.one) ?_) | ((with_reducible refine at_ld 31 (.tmp 7) ?_); refine wpList_load_node rfl 31 (.tmp 7) rfl w5.heap.size t5 vt5 rfl (Blk.new w5 _ _) Tryd.underlying31 rfl Tryd.sizeRef ?_) | ((with_reducible refine at_ld 31 (.tmp 3) ?_); refine wpList_load_node rfl 31 (.tmp 3) rfl (w.heap.size + 1) (T.mk 8 (bs [38, 109, 117, 116]) 0 tk.place [t5]) (.slice (some ⟨w5.heap.size + 1, 0, none⟩) 1 1) rfl (((HBn5.out.setSame 4 _).alloc _).alloc _) Tryd.underlying31 rfl Tryd.sizeRef ?_) | ((with_reducible refine at_st 31 (.tmp 2) ?_); refine wpList_store_blk rfl 31 (.tmp 2) (.tmp 50) rfl w.heap.size (nodeCells (T.mk 8 (bs [38, 109, 117, 116]) 0 tk.place [t5]) (.slice (some ⟨w5.heap.size + 1, 0, none⟩) 1 1)) rfl rfl (((HBr5.out.setOther ⟨(w.heap.size + 1), 4, none⟩ _ (by (try dsimp only); omega)).alloc _).alloc _) Tryd.sizeRef rfl (nodeCells_one _ _ rfl) ?_))
        have hk1 := KAt.lit1 (e := 31) (w := ((w5.setCell ⟨(w.heap.size + 1), 4, none⟩ (.slice (some ⟨w5.heap.size + 1, 0, none⟩) 1 1)).alloc (.cells (nodeCells t5 vt5).toArray 31))) (t := t5) (S := (fun b => w.heap.size < b ∧ b ≠ w.heap.size + 1)) (TAt.of_kids ((HVt55.out.setCell ⟨(w.heap.size + 1), 4, none⟩ (.slice (some ⟨w5.heap.size + 1, 0, none⟩) 1 1) (fun b hb => by (try dsimp only); omega)).alloc _)) (by simp only [World.size_alloc, World.size_setCell]; omega)
        rw [show ((w5.setCell ⟨(w.heap.size + 1), 4, none⟩ (.slice (some ⟨w5.heap.size + 1, 0, none⟩) 1 1)).alloc (.cells (nodeCells t5 vt5).toArray 31)).heap.size = w5.heap.size + 1 by simp] at hk1
        have HVx5 := Lib.hid hk1
        clear hk1 n4 nf4
        exact ret_blk (cs := nodeCells (T.mk 8 (bs [38, 109, 117, 116]) 0 tk.place [t5]) (.slice (some ⟨w5.heap.size + 1, 0, none⟩) 1 1)) Tryd.results56 rfl (((HBr5.out.setOther ⟨(w.heap.size + 1), 4, none⟩ _ (by (try dsimp only); omega)).alloc _).alloc _) Tryd.underlying31 rfl Tryd.sizeRef rfl
          ⟨(T.mk 8 (bs [38, 109, 117, 116]) 0 tk.place [t5]), _, l5, f5, q5, rfl, (HVx5.out.setRow w.heap.size _ (fun b hb => by omega)).mono (fun b hb _ => by omega), by show 1 ≤ 40000; decide, (((H5.out.far ⟨(w.heap.size + 1), 4, none⟩ _ (by (try dsimp only); omega) (by (try dsimp only); omega)).alloc _).alloc _).same (by simp [World.setRow]) (setRow_other _ _ _ _ (by omega)) (setRow_other _ _ _ _ (by omega)), (((HK5.out.setNew (p := ⟨(w.heap.size + 1), 4, none⟩) (by (try dsimp only); omega) _).alloc _).alloc _).setRow (Nat.le_refl _) _, Sees.turn (fun hf => mode_ref (no_is hx1 hf) (no_is hx2 hf)) (by rw [HT.out]; exact HS3.out.andThen (Sees.yes hi4 hf4 (HS5.out.andThen (Sees.done _ _ _ _))))⟩
      · go_wp2_with fail
        refine (rname_tot H4.out).mono ?_
        rintro e w5 ⟨t5, vt5, l5, f5, q5, rfl, hk5, hn5, hs5, hp5, hsee5⟩
        have HBr5 := Lib.hid (HBr4.out.kp hp5 (by omega))
        have HBn5 := Lib.hid (HBn4.out.kp hp5 (by omega))
        have HK5 := Lib.hid (HK4.out.trans hp5)
        have hzr5 := HBr5.out.lt
        have hzn5 := HBn5.out.lt
        have HVt55 := Lib.hid (show KAt 31 w5 t5.kids (fun b => w.heap.size < b ∧ b ≠ w.heap.size + 1) vt5 from hk5.mono (fun b hb _ => by (try simp at hb); omega))
        have H5 := Lib.hid hs5
        have HS5 := Lib.hid hsee5
        clear hk5 hs5 hp5 hsee5
        unfold NodeV
        have n4 : w5.cell? ⟨(w.heap.size + 1), 4, none⟩ = some (.slice none 0 0) := HBn5.out.cell 4
        have nf4 := HBn5.out.frozen 4
        go_wp2_with (first | ((with_reducible refine at_st 31 (.tmp 7) ?_); refine wpList_store_new rfl 31 (.tmp 7) (.tmp 46) rfl (nodeCells t5 vt5) (old := zeroNodeCells) rfl rfl Tryd.sizeRef rfl (nodeCells_one _ _ HVt55.out.one) ?_) | ((with_reducible refine at_ld 31 (.tmp 7) ?_); refine wpList_load_node rfl 31 (.tmp 7) rfl w5.heap.size t5 vt5 rfl (Blk.new w5 _ _) Tryd.underlying31 rfl Tryd.sizeRef ?_) | ((with_reducible refine at_ld 31 (.tmp 3) ?_); refine wpList_load_node rfl 31 (.tmp 3) rfl (w.heap.size + 1) (T.mk 8 tk.text 0 tk.place [t5]) (.slice (some ⟨w5.heap.size + 1, 0, none⟩) 1 1) rfl (((HBn5.out.setSame 4 _).alloc _).alloc _) Tryd.underlying31 rfl Tryd.sizeRef ?_) | ((with_reducible refine at_st 31 (.tmp 2) ?_); refine wpList_store_blk rfl 31 (.tmp 2) (.tmp 50) rfl w.heap.size (nodeCells (T.mk 8 tk.text 0 tk.place [t5]) (.slice (some ⟨w5.heap.size + 1, 0, none⟩) 1 1)) rfl rfl (((HBr5.out.setOther ⟨(w.heap.size + 1), 4, none⟩ _ (by (try dsimp only); omega)).alloc _).alloc _) Tryd.sizeRef rfl (nodeCells_one _ _ rfl) ?_))
        have hk1 := KAt.lit1 (e := 31) (w := ((w5.setCell ⟨(w.heap.size + 1), 4, none⟩ (.slice (some ⟨w5.heap.size + 1, 0, none⟩) 1 1)).alloc (.cells (nodeCells t5 vt5).toArray 31))) (t := t5) (S := (fun b => w.heap.size < b ∧ b ≠ w.heap.size + 1)) (TAt.of_kids ((HVt55.out.setCell ⟨(w.heap.size + 1), 4, none⟩ (.slice (some ⟨w5.heap.size + 1, 0, none⟩) 1 1) (fun b hb => by (try dsimp only); omega)).alloc _)) (by simp only [World.size_alloc, World.size_setCell]; omega)
        rw [show ((w5.setCell ⟨(w.heap.size + 1), 4, none⟩ (.slice (some ⟨w5.heap.size + 1, 0, none⟩) 1 1)).alloc (.cells (nodeCells t5 vt5).toArray 31)).heap.size = w5.heap.size + 1 by simp] at hk1
        have HVx5 := Lib.hid hk1
        clear hk1 n4 nf4
        exact ret_blk (cs := nodeCells (T.mk 8 tk.text 0 tk.place [t5]) (.slice (some ⟨w5.heap.size + 1, 0, none⟩) 1 1)) Tryd.results56 rfl (((HBr5.out.setOther ⟨(w.heap.size + 1), 4, none⟩ _ (by (try dsimp only); omega)).alloc _).alloc _) Tryd.underlying31 rfl Tryd.sizeRef rfl
          ⟨(T.mk 8 tk.text 0 tk.place [t5]), _, l5, f5, q5, rfl, (HVx5.out.setRow w.heap.size _ (fun b hb => by omega)).mono (fun b hb _ => by omega), by show 1 ≤ 40000; decide, (((H5.out.far ⟨(w.heap.size + 1), 4, none⟩ _ (by (try dsimp only); omega) (by (try dsimp only); omega)).alloc _).alloc _).same (by simp [World.setRow]) (setRow_other _ _ _ _ (by omega)) (setRow_other _ _ _ _ (by omega)), (((HK5.out.setNew (p := ⟨(w.heap.size + 1), 4, none⟩) (by (try dsimp only); omega) _).alloc _).alloc _).setRow (Nat.le_refl _) _, Sees.turn (fun hf => mode_ref (no_is hx1 hf) (no_is hx2 hf)) (by rw [HT.out]; exact HS3.out.andThen (Sees.no hx4 (HS5.out.andThen (Sees.done _ _ _ _))))⟩

end Go.Proofs.YtnmpfpnldcgbaaaDoor
