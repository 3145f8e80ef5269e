/- The contract of lychgateref02.cmp. ONE contract for each function of the document's parser, whatever state it is called in (with a fault or without): RTot for those that hand back a node; and the contracts of term, cmp so, and of fact. The contract of lychgateref02.fact. -/
import Derived.Test.YtnmpfpnldcgbaaaDoorRefLeaf
import Derived.Test.YtnmpfpnldcgbaaaDoorRefTerm
namespace Go.Proofs.YtnmpfpnldcgbaaaDoor
section
open Go.RowKit

theorem keyCmp0 : keySign (bs [60]) = true := by kernel_rfl
theorem keyCmp1 : keySign (bs [60, 61]) = true := by kernel_rfl
theorem keyCmp2 : keySign (bs [61, 61]) = true := by kernel_rfl
def cmpCells : List Value := [.string (bs [60]), .string (bs [60, 61]), .string (bs [61, 61])]

set_option maxRecDepth 100000 in
set_option maxHeartbeats 4000000 in
theorem rcmp_yes0 {E : Env} {w : World} {l : List Tok} {d : Nat} {q : Nat} (h : RSt E w l d 0 q) (hi0 : isT (hdT l) (bs [60]) = true) :
    Calls Tryd.prog 78 #[.pointer (some ⟨E.pb, 0, none⟩)] w fun e w' => e = .returned (.string (bs [60])) ∧ RSt E w' l.tail d 0 q ∧ Kp E.pb w w' := by
  have HI0 := Lib.hid hi0
  clear hi0
  have HL := Lib.hid (Blk.new w cmpCells 9)
  have H := Lib.hid (h.alloc (.cells cmpCells.toArray 9))
  have HK := Lib.hid ((Kp.refl E.pb w).alloc (.cells cmpCells.toArray 9))
  have hplt := h.plt
  clear h
  go_enter Tryd.func78, Tryd.ntmps78
  go_wp2_with fail
  refine wp_loop_rounds 4 ?_
  rw [rounds_succ]
  go_wp2_with fail
  refine (rhas_yes H.out (bs [60]) keyCmp0 (by decide) HI0.out).mono ?_
  rintro e w0 ⟨rfl, hs, hk⟩
  have HL0 := Lib.hid (HL.out.kp hk (by omega))
  have HKY := Lib.hid (HK.out.trans hk)
  have HSY := Lib.hid hs
  clear hs hk
  have l00 : w0.cell? ⟨w.heap.size, 0, none⟩ = some (.string (bs [60])) := HL0.out.cell 0
  go_wp2_with fail
  go_ret
  exact ⟨rfl, HSY.out, HKY.out⟩

set_option maxRecDepth 100000 in
set_option maxHeartbeats 4000000 in
theorem rcmp_yes1 {E : Env} {w : World} {l : List Tok} {d : Nat} {q : Nat} (h : RSt E w l d 0 q) (hi0 : isT (hdT l) (bs [60]) = false) (hi1 : isT (hdT l) (bs [60, 61]) = true) :
    Calls Tryd.prog 78 #[.pointer (some ⟨E.pb, 0, none⟩)] w fun e w' => e = .returned (.string (bs [60, 61])) ∧ RSt E w' l.tail d 0 q ∧ Kp E.pb w w' := by
  have HI0 := Lib.hid hi0
  clear hi0
  have HI1 := Lib.hid hi1
  clear hi1
  have HL := Lib.hid (Blk.new w cmpCells 9)
  have H := Lib.hid (h.alloc (.cells cmpCells.toArray 9))
  have HK := Lib.hid ((Kp.refl E.pb w).alloc (.cells cmpCells.toArray 9))
  have hplt := h.plt
  clear h
  go_enter Tryd.func78, Tryd.ntmps78
  go_wp2_with fail
  refine wp_loop_rounds 4 ?_
  rw [rounds_succ]
  go_wp2_with fail
  refine (rhas_no H.out (bs [60]) keyCmp0 (good_is HI0.out)).mono ?_
  rintro e w0 ⟨rfl, hb⟩
  have H0 := Lib.hid (H.out.below hb)
  have HL0 := Lib.hid (HL.out.below hb)
  have HK0 := Lib.hid (HK.out.trans (Kp.of_below hb))
  clear hb
  have l00 : w0.cell? ⟨w.heap.size, 0, none⟩ = some (.string (bs [60])) := HL0.out.cell 0
  have l01 : w0.cell? ⟨w.heap.size, 1, none⟩ = some (.string (bs [60, 61])) := HL0.out.cell 1
  have l02 : w0.cell? ⟨w.heap.size, 2, none⟩ = some (.string (bs [61, 61])) := HL0.out.cell 2
  go_wp2_with fail
  rw [rounds_succ]
  go_wp2_with fail
  refine (rhas_yes H0.out (bs [60, 61]) keyCmp1 (by decide) HI1.out).mono ?_
  rintro e w1 ⟨rfl, hs, hk⟩
  have HL1 := Lib.hid (HL0.out.kp hk (by omega))
  have HKY := Lib.hid (HK0.out.trans hk)
  have HSY := Lib.hid hs
  clear hs hk
  have l11 : w1.cell? ⟨w.heap.size, 1, none⟩ = some (.string (bs [60, 61])) := HL1.out.cell 1
  go_wp2_with fail
  go_ret
  exact ⟨rfl, HSY.out, HKY.out⟩

set_option maxRecDepth 100000 in
set_option maxHeartbeats 4000000 in
theorem rcmp_yes2 {E : Env} {w : World} {l : List Tok} {d : Nat} {q : Nat} (h : RSt E w l d 0 q) (hi0 : isT (hdT l) (bs [60]) = false) (hi1 : isT (hdT l) (bs [60, 61]) = false) (hi2 : isT (hdT l) (bs [61, 61]) = true) :
    Calls Tryd.prog 78 #[.pointer (some ⟨E.pb, 0, none⟩)] w fun e w' => e = .returned (.string (bs [61, 61])) ∧ RSt E w' l.tail d 0 q ∧ Kp E.pb w w' := by
  have HI0 := Lib.hid hi0
  clear hi0
  have HI1 := Lib.hid hi1
  clear hi1
  have HI2 := Lib.hid hi2
  clear hi2
  have HL := Lib.hid (Blk.new w cmpCells 9)
  have H := Lib.hid (h.alloc (.cells cmpCells.toArray 9))
  have HK := Lib.hid ((Kp.refl E.pb w).alloc (.cells cmpCells.toArray 9))
  have hplt := h.plt
  clear h
  go_enter Tryd.func78, Tryd.ntmps78
  go_wp2_with fail
  refine wp_loop_rounds 4 ?_
  rw [rounds_succ]
  go_wp2_with fail
  refine (rhas_no H.out (bs [60]) keyCmp0 (good_is HI0.out)).mono ?_
  rintro e w0 ⟨rfl, hb⟩
  have H0 := Lib.hid (H.out.below hb)
  have HL0 := Lib.hid (HL.out.below hb)
  have HK0 := Lib.hid (HK.out.trans (Kp.of_below hb))
  clear hb
  have l00 : w0.cell? ⟨w.heap.size, 0, none⟩ = some (.string (bs [60])) := HL0.out.cell 0
  have l01 : w0.cell? ⟨w.heap.size, 1, none⟩ = some (.string (bs [60, 61])) := HL0.out.cell 1
  have l02 : w0.cell? ⟨w.heap.size, 2, none⟩ = some (.string (bs [61, 61])) := HL0.out.cell 2
  go_wp2_with fail
  rw [rounds_succ]
  go_wp2_with fail
  refine (rhas_no H0.out (bs [60, 61]) keyCmp1 (good_is HI1.out)).mono ?_
  rintro e w1 ⟨rfl, hb⟩
  have H1 := Lib.hid (H0.out.below hb)
  have HL1 := Lib.hid (HL0.out.below hb)
  have HK1 := Lib.hid (HK0.out.trans (Kp.of_below hb))
  clear hb
  have l10 : w1.cell? ⟨w.heap.size, 0, none⟩ = some (.string (bs [60])) := HL1.out.cell 0
  have l11 : w1.cell? ⟨w.heap.size, 1, none⟩ = some (.string (bs [60, 61])) := HL1.out.cell 1
  have l12 : w1.cell? ⟨w.heap.size, 2, none⟩ = some (.string (bs [61, 61])) := HL1.out.cell 2
  go_wp2_with fail
  rw [rounds_succ]
  go_wp2_with fail
  refine (rhas_yes H1.out (bs [61, 61]) keyCmp2 (by decide) HI2.out).mono ?_
  rintro e w2 ⟨rfl, hs, hk⟩
  have HL2 := Lib.hid (HL1.out.kp hk (by omega))
  have HKY := Lib.hid (HK1.out.trans hk)
  have HSY := Lib.hid hs
  clear hs hk
  have l22 : w2.cell? ⟨w.heap.size, 2, none⟩ = some (.string (bs [61, 61])) := HL2.out.cell 2
  go_wp2_with fail
  go_ret
  exact ⟨rfl, HSY.out, HKY.out⟩

set_option maxRecDepth 100000 in
set_option maxHeartbeats 4000000 in
theorem rcmp_no {E : Env} {w : World} {l : List Tok} {d : Nat} {q : Nat} (h : RSt E w l d 0 q) (hi0 : isT (hdT l) (bs [60]) = false) (hi1 : isT (hdT l) (bs [60, 61]) = false) (hi2 : isT (hdT l) (bs [61, 61]) = false) :
    Calls Tryd.prog 78 #[.pointer (some ⟨E.pb, 0, none⟩)] w fun e w' => e = .returned (.string ⟨#[]⟩) ∧ RSt E w' l d 20 (hdT l).place ∧ Kp E.pb w w' := by
  have HI0 := Lib.hid hi0
  clear hi0
  have HI1 := Lib.hid hi1
  clear hi1
  have HI2 := Lib.hid hi2
  clear hi2
  have HL := Lib.hid (Blk.new w cmpCells 9)
  have H := Lib.hid (h.alloc (.cells cmpCells.toArray 9))
  have HK := Lib.hid ((Kp.refl E.pb w).alloc (.cells cmpCells.toArray 9))
  have hplt := h.plt
  clear h
  go_enter Tryd.func78, Tryd.ntmps78
  go_wp2_with fail
  refine wp_loop_rounds 4 ?_
  rw [rounds_succ]
  go_wp2_with fail
  refine (rhas_no H.out (bs [60]) keyCmp0 (good_is HI0.out)).mono ?_
  rintro e w0 ⟨rfl, hb⟩
  have H0 := Lib.hid (H.out.below hb)
  have HL0 := Lib.hid (HL.out.below hb)
  have HK0 := Lib.hid (HK.out.trans (Kp.of_below hb))
  clear hb
  have l00 : w0.cell? ⟨w.heap.size, 0, none⟩ = some (.string (bs [60])) := HL0.out.cell 0
  have l01 : w0.cell? ⟨w.heap.size, 1, none⟩ = some (.string (bs [60, 61])) := HL0.out.cell 1
  have l02 : w0.cell? ⟨w.heap.size, 2, none⟩ = some (.string (bs [61, 61])) := HL0.out.cell 2
  go_wp2_with fail
  rw [rounds_succ]
  go_wp2_with fail
  refine (rhas_no H0.out (bs [60, 61]) keyCmp1 (good_is HI1.out)).mono ?_
  rintro e w1 ⟨rfl, hb⟩
  have H1 := Lib.hid (H0.out.below hb)
  have HL1 := Lib.hid (HL0.out.below hb)
  have HK1 := Lib.hid (HK0.out.trans (Kp.of_below hb))
  clear hb
  have l10 : w1.cell? ⟨w.heap.size, 0, none⟩ = some (.string (bs [60])) := HL1.out.cell 0
  have l11 : w1.cell? ⟨w.heap.size, 1, none⟩ = some (.string (bs [60, 61])) := HL1.out.cell 1
  have l12 : w1.cell? ⟨w.heap.size, 2, none⟩ = some (.string (bs [61, 61])) := HL1.out.cell 2
  go_wp2_with fail
  rw [rounds_succ]
  go_wp2_with fail
  refine (rhas_no H1.out (bs [61, 61]) keyCmp2 (good_is HI2.out)).mono ?_
  rintro e w2 ⟨rfl, hb⟩
  have H2 := Lib.hid (H1.out.below hb)
  have HL2 := Lib.hid (HL1.out.below hb)
  have HK2 := Lib.hid (HK1.out.trans (Kp.of_below hb))
  clear hb
  have l20 : w2.cell? ⟨w.heap.size, 0, none⟩ = some (.string (bs [60])) := HL2.out.cell 0
  have l21 : w2.cell? ⟨w.heap.size, 1, none⟩ = some (.string (bs [60, 61])) := HL2.out.cell 1
  have l22 : w2.cell? ⟨w.heap.size, 2, none⟩ = some (.string (bs [61, 61])) := HL2.out.cell 2
  go_wp2_with fail
  rw [rounds_succ]
  go_wp2_with fail
  refine (rfail_ok H2.out 20).mono ?_
  rintro e w3 ⟨rfl, hs, hk⟩
  have HKY := Lib.hid (HK2.out.trans hk)
  have HSY := Lib.hid hs
  clear hs hk
  go_wp2_with fail
  go_ret
  exact ⟨rfl, HSY.out, HKY.out⟩

set_option maxRecDepth 100000 in
set_option maxHeartbeats 4000000 in
theorem rcmp_bad {E : Env} {w : World} {l : List Tok} {d : Nat} {f : Int} {q : Nat} (h : RSt E w l d f q) (hf : (f == 0) = false) :
    Calls Tryd.prog 78 #[.pointer (some ⟨E.pb, 0, none⟩)] w fun e w' => e = .returned (.string ⟨#[]⟩) ∧ Below w.heap.size w w' := by
  have HF := Lib.hid hf
  clear hf
  have HBW := Lib.hid ((Below.refl w.heap.size w).alloc (Nat.le_refl _) (.cells cmpCells.toArray 9))
  have HL := Lib.hid (Blk.new w cmpCells 9)
  have H := Lib.hid (h.alloc (.cells cmpCells.toArray 9))
  have HK := Lib.hid ((Kp.refl E.pb w).alloc (.cells cmpCells.toArray 9))
  have hplt := h.plt
  clear h
  go_enter Tryd.func78, Tryd.ntmps78
  go_wp2_with fail
  refine wp_loop_rounds 4 ?_
  rw [rounds_succ]
  go_wp2_with fail
  refine (rhas_no H.out (bs [60]) keyCmp0 (bad_is HF.out _)).mono ?_
  rintro e w0 ⟨rfl, hb⟩
  have H0 := Lib.hid (H.out.below hb)
  have HL0 := Lib.hid (HL.out.below hb)
  have HK0 := Lib.hid (HK.out.trans (Kp.of_below hb))
  have HBW0 := Lib.hid (HBW.out.trans (hb.mono (by simp)))
  clear hb
  have l00 : w0.cell? ⟨w.heap.size, 0, none⟩ = some (.string (bs [60])) := HL0.out.cell 0
  have l01 : w0.cell? ⟨w.heap.size, 1, none⟩ = some (.string (bs [60, 61])) := HL0.out.cell 1
  have l02 : w0.cell? ⟨w.heap.size, 2, none⟩ = some (.string (bs [61, 61])) := HL0.out.cell 2
  go_wp2_with fail
  rw [rounds_succ]
  go_wp2_with fail
  refine (rhas_no H0.out (bs [60, 61]) keyCmp1 (bad_is HF.out _)).mono ?_
  rintro e w1 ⟨rfl, hb⟩
  have H1 := Lib.hid (H0.out.below hb)
  have HL1 := Lib.hid (HL0.out.below hb)
  have HK1 := Lib.hid (HK0.out.trans (Kp.of_below hb))
  have HBW1 := Lib.hid (HBW0.out.trans (hb.mono HBW0.out.size))
  clear hb
  have l10 : w1.cell? ⟨w.heap.size, 0, none⟩ = some (.string (bs [60])) := HL1.out.cell 0
  have l11 : w1.cell? ⟨w.heap.size, 1, none⟩ = some (.string (bs [60, 61])) := HL1.out.cell 1
  have l12 : w1.cell? ⟨w.heap.size, 2, none⟩ = some (.string (bs [61, 61])) := HL1.out.cell 2
  go_wp2_with fail
  rw [rounds_succ]
  go_wp2_with fail
  refine (rhas_no H1.out (bs [61, 61]) keyCmp2 (bad_is HF.out _)).mono ?_
  rintro e w2 ⟨rfl, hb⟩
  have H2 := Lib.hid (H1.out.below hb)
  have HL2 := Lib.hid (HL1.out.below hb)
  have HK2 := Lib.hid (HK1.out.trans (Kp.of_below hb))
  have HBW2 := Lib.hid (HBW1.out.trans (hb.mono HBW1.out.size))
  clear hb
  have l20 : w2.cell? ⟨w.heap.size, 0, none⟩ = some (.string (bs [60])) := HL2.out.cell 0
  have l21 : w2.cell? ⟨w.heap.size, 1, none⟩ = some (.string (bs [60, 61])) := HL2.out.cell 1
  have l22 : w2.cell? ⟨w.heap.size, 2, none⟩ = some (.string (bs [61, 61])) := HL2.out.cell 2
  go_wp2_with fail
  rw [rounds_succ]
  go_wp2_with fail
  refine (rfail_bad H2.out HF.out 20).mono ?_
  rintro e w3 ⟨rfl, rfl⟩
  go_wp2_with fail
  go_ret
  exact ⟨rfl, HBW2.out⟩
end

section
open Go.RowKit

/- What a call comes to from the state (l, f, q): without a fault what the plain reader says, with one nothing moves. -/
def Sees {α : Type} (l : List Tok) (f : Int) (q : Nat) (r : R α) (t : α) (lf : List Tok) (f' : Int) (q' : Nat) : Prop :=
  ((f == 0) = true ∧ ((∃ l0, r = .ok (t, l0) ∧ lf = l0 ∧ f' = 0 ∧ q' = q ∧ l0.length ≤ l.length) ∨ (∃ p c, r = .error (p, c) ∧ f' = c ∧ q' = p ∧ (c == 0) = false))) ∨
  ((f == 0) = false ∧ lf = l ∧ f' = f ∧ q' = q)

def RTot (E : Env) (w : World) (d : Nat) (l : List Tok) (f : Int) (q : Nat) (r : R T) (e : Ending) (w' : World) : Prop :=
  ∃ t v lf f' q', e = .returned (NodeV t v) ∧ KAt 31 w' t.kids (fun b => w.heap.size ≤ b) v ∧ t.kids.length ≤ 40000 ∧ RSt E w' lf d f' q' ∧ Kp E.pb w w' ∧ Sees l f q r t lf f' q'

theorem RNode.tot {E : Env} {w : World} {d q : Nat} {l : List Tok} {r : R T} {e : Ending} {w' : World} (h : RNode E w d q l r e w') (hk : ∀ t l0, r = .ok (t, l0) → t.kids.length ≤ 40000) : RTot E w d l 0 q r e w' := by
  unfold RNode at h
  cases r with
  | ok x =>
    obtain ⟨t, l0⟩ := x
    obtain ⟨v, rfl, h1, h2, h3, h4⟩ := h
    exact ⟨t, v, l0, 0, q, rfl, h1, hk t l0 rfl, h2, h3, .inl ⟨rfl, .inl ⟨l0, rfl, rfl, rfl, rfl, h4⟩⟩⟩
  | error x =>
    obtain ⟨p, c⟩ := x
    obtain ⟨t, v, lf, rfl, h1, h2, h3, h4, h5⟩ := h
    exact ⟨t, v, lf, c, p, rfl, h1, h2, h3, h4, .inl ⟨rfl, .inr ⟨p, c, rfl, rfl, rfl, h5⟩⟩⟩

theorem RJunk.tot {E : Env} {w : World} {d q : Nat} {l : List Tok} {f : Int} {r : R T} {e : Ending} {w' : World} (h : RJunk w e w') (hs : RSt E w l d f q) (hf : (f == 0) = false) : RTot E w d l f q r e w' := by
  obtain ⟨t, v, rfl, h1, h2, h3⟩ := h
  exact ⟨t, v, l, f, q, rfl, h1, by omega, hs.below h3, Kp.of_below h3, .inr ⟨hf, rfl, rfl, rfl⟩⟩

/- A term has no kids, and stands where its first token does. -/
def Leafy (l : List Tok) (t : T) (_ : List Tok) : Prop := t.kids = [] ∧ t.place = (hdT l).place
theorem any_ok {α : Type} (r : R α) : Ok (fun _ _ => True) r := fun _ _ _ => trivial
theorem term_leafy (l : List Tok) : Ok (Leafy l) (termP l) := by
  unfold termP
  refine Ok.cond (fun _ => ?_) (fun _ => ?_)
  · refine Ok.bd (G := Leafy l) ?_ fun n l1 h => Ok.sum (fun _ => Ok.ok h) fun k x _ => (any_ok _).bd fun v l2 _ => Ok.ok ?_
    · unfold nameTermP
      exact (any_ok _).bd fun s l1 _ => Ok.ok ⟨rfl, rfl⟩
    · obtain ⟨k, s, n, p, ks⟩ := n
      exact h
  · unfold numberTermP
    exact Ok.cond (fun _ => (any_ok _).bd fun s l1 _ => Ok.ok ⟨rfl, rfl⟩) (fun _ => (any_ok _).bd fun s l1 _ => Ok.ok ⟨rfl, rfl⟩)

theorem rterm_tot {E : Env} {w : World} {l : List Tok} {d : Nat} {f : Int} {q : Nat} (h : RSt E w l d f q) :
    Calls Tryd.prog 77 #[.pointer (some ⟨E.pb, 0, none⟩)] w (RTot E w d l f q (termP l)) := by
  cases hf : (f == 0) with
  | true =>
    have e : f = 0 := beq_iff_eq.1 hf
    subst e
    exact (rterm_any h).mono fun _ _ hp => hp.tot fun t l0 hr => by rw [(term_leafy l t l0 hr).1]; simp
  | false => exact (rterm_bad h hf).mono fun _ _ hp => hp.tot h hf

def cmpL : List ByteArray := [bs [60], bs [60, 61], bs [61, 61]]
def RCmp (E : Env) (w : World) (d : Nat) (l : List Tok) (f : Int) (q : Nat) (e : Ending) (w' : World) : Prop :=
  ∃ s lf f' q', e = .returned (.string s) ∧ RSt E w' lf d f' q' ∧ Kp E.pb w w' ∧ Sees l f q (bd (expectP cmpL l) fun t l => .ok (t.text, l)) s lf f' q'

theorem isT_text {t : Tok} {s : ByteArray} (h : isT t s = true) : t.text = s := by
  unfold isT at h
  have h1 := beq_iff_eq.1 h
  rw [ByteArray.toList_eq, ByteArray.toList_eq] at h1
  exact ByteArray.ext (Array.toList_inj.1 h1)

theorem cmp_ok {l : List Tok} {s : ByteArray} (hm : cmpL.any (isT (hdT l)) = true) (hi : isT (hdT l) s = true) : (bd (expectP cmpL l) fun t l => (.ok (t.text, l) : R ByteArray)) = .ok (s, l.tail) := by
  have e : expectP cmpL l = .ok (hdT l, l.tail) := by
    unfold expectP
    rw [hm]
    rfl
  rw [bd_ok e, isT_text hi]

theorem rcmp_tot {E : Env} {w : World} {l : List Tok} {d : Nat} {f : Int} {q : Nat} (h : RSt E w l d f q) :
    Calls Tryd.prog 78 #[.pointer (some ⟨E.pb, 0, none⟩)] w (RCmp E w d l f q) := by
  cases hf : (f == 0) with
  | false => exact (rcmp_bad h hf).mono fun _ _ ⟨he, hb⟩ => ⟨_, l, f, q, he, h.below hb, Kp.of_below hb, .inr ⟨hf, rfl, rfl, rfl⟩⟩
  | true =>
    have e : f = 0 := beq_iff_eq.1 hf
    subst e
    have hl : l.tail.length ≤ l.length := by rw [List.length_tail]; omega
    cases h0 : isT (hdT l) (bs [60]) with
    | true => exact (rcmp_yes0 h h0).mono fun _ _ ⟨he, hs, hk⟩ => ⟨_, _, _, _, he, hs, hk, .inl ⟨rfl, .inl ⟨_, cmp_ok (by simp [cmpL, h0]) h0, rfl, rfl, rfl, hl⟩⟩⟩
    | false =>
      cases h1 : isT (hdT l) (bs [60, 61]) with
      | true => exact (rcmp_yes1 h h0 h1).mono fun _ _ ⟨he, hs, hk⟩ => ⟨_, _, _, _, he, hs, hk, .inl ⟨rfl, .inl ⟨_, cmp_ok (by simp [cmpL, h1]) h1, rfl, rfl, rfl, hl⟩⟩⟩
      | false =>
        cases h2 : isT (hdT l) (bs [61, 61]) with
        | true => exact (rcmp_yes2 h h0 h1 h2).mono fun _ _ ⟨he, hs, hk⟩ => ⟨_, _, _, _, he, hs, hk, .inl ⟨rfl, .inl ⟨_, cmp_ok (by simp [cmpL, h2]) h2, rfl, rfl, rfl, hl⟩⟩⟩
        | false => exact (rcmp_no h h0 h1 h2).mono fun _ _ ⟨he, hs, hk⟩ => ⟨_, _, _, _, he, hs, hk, .inl ⟨rfl, .inr ⟨_, _, by unfold expectP; simp [cmpL, h0, h1, h2, bd], rfl, rfl, rfl⟩⟩⟩
end

section
open Go.RowKit

theorem sees_fact {l l1 l2 l3 : List Tok} {f f1 f2 f3 : Int} {q q1 q2 q3 : Nat} {t1 t2 : T} {s : ByteArray} (h1 : Sees l f q (termP l) t1 l1 f1 q1) (h2 : Sees l1 f1 q1 (bd (expectP cmpL l1) fun t l => .ok (t.text, l)) s l2 f2 q2) (h3 : Sees l2 f2 q2 (termP l2) t2 l3 f3 q3) :
    Sees l f q (factP l) (T.mk 4 s 0 t1.place [t1, t2]) l3 f3 q3 := by
  have ef : factP l = bd (termP l) fun a l' => bd (bd (expectP cmpL l') fun t l => (.ok (t.text, l) : R ByteArray)) fun c l' => bd (termP l') fun b l' => .ok (.mk 4 c 0 (hdT l).place [a, b], l') := by
    unfold factP compareP
    congr 1
    funext a l'
    show bd (expectP cmpL l') _ = _
    cases expectP cmpL l' with
    | error e => rfl
    | ok x => obtain ⟨c, l''⟩ := x; rfl
  rcases h1 with ⟨e0, h1⟩ | ⟨e0, rfl, rfl, rfl⟩
  · rcases h1 with ⟨l0, r1, rfl, rfl, rfl, n1⟩ | ⟨p, c, r1, rfl, rfl, hc⟩
    · rcases h2 with ⟨_, h2⟩ | ⟨e1, _⟩
      · rcases h2 with ⟨l0, r2, rfl, rfl, rfl, n2⟩ | ⟨p, c, r2, rfl, rfl, hc⟩
        · rcases h3 with ⟨_, h3⟩ | ⟨e2, _⟩
          · rcases h3 with ⟨l0, r3, rfl, rfl, rfl, n3⟩ | ⟨p, c, r3, rfl, rfl, hc⟩
            · refine .inl ⟨e0, .inl ⟨_, ?_, rfl, rfl, rfl, by omega⟩⟩
              rw [ef, bd_ok r1, bd_ok r2, bd_ok r3, (term_leafy l t1 _ r1).2]
            · refine .inl ⟨e0, .inr ⟨_, _, ?_, rfl, rfl, hc⟩⟩
              rw [ef, bd_ok r1, bd_ok r2, bd_err r3]
          · cases e2
        · rcases h3 with ⟨e2, _⟩ | ⟨_, rfl, rfl, rfl⟩
          · rw [hc] at e2; cases e2
          · refine .inl ⟨e0, .inr ⟨_, _, ?_, rfl, rfl, hc⟩⟩
            rw [ef, bd_ok r1, bd_err r2]
      · cases e1
    · rcases h2 with ⟨e1, _⟩ | ⟨_, rfl, rfl, rfl⟩
      · rw [hc] at e1; cases e1
      · rcases h3 with ⟨e2, _⟩ | ⟨_, rfl, rfl, rfl⟩
        · rw [hc] at e2; cases e2
        · refine .inl ⟨e0, .inr ⟨_, _, ?_, rfl, rfl, hc⟩⟩
          rw [ef, bd_err r1]
  · rcases h2 with ⟨e1, _⟩ | ⟨_, rfl, rfl, rfl⟩
    · rw [e0] at e1; cases e1
    · rcases h3 with ⟨e2, _⟩ | ⟨_, rfl, rfl, rfl⟩
      · rw [e0] at e2; cases e2
      · exact .inr ⟨e0, rfl, rfl, rfl⟩

set_option maxRecDepth 100000 in
set_option maxHeartbeats 4000000 in
theorem rfact_tot {E : Env} {w : World} {l : List Tok} {d : Nat} {f : Int} {q : Nat} (h : RSt E w l d f q) :
    Calls Tryd.prog 61 #[.pointer (some ⟨E.pb, 0, none⟩)] w (RTot E w d l f q (factP l)) := by
  have H := Lib.hid h
  have hplt := h.plt
  have htlt := h.tlt
  have HB0 := Lib.hid (Blk.new w zeroNodeCells 31)
  clear h
  go_enter Tryd.func61, Tryd.ntmps61
  go_wp2_with fail
  refine (rterm_tot (H.out.alloc _)).mono ?_
  rintro e w1 ⟨t1, v1, l1, f1, q1, rfl, hk1, hn1, hs1, hp1, hsee1⟩
  have HB1 := Lib.hid (HB0.out.kp hp1 (by omega))
  have HV1 := Lib.hid (show KAt 31 w1 t1.kids (fun b => w.heap.size < b) v1 from hk1.mono (fun b hb _ => by simp at hb; omega))
  have HK1 := Lib.hid (((Kp.refl E.pb w).alloc _).trans hp1)
  have H1 := Lib.hid hs1
  have HS1 := Lib.hid hsee1
  have hz1 := HB1.out.lt
  clear hk1 hs1 hp1 hsee1
  unfold NodeV
  go_wp2_with ((with_reducible refine at_st 31 (.tmp 3) ?_); refine wpList_store_new rfl 31 (.tmp 3) (.tmp 7) rfl (nodeCells t1 v1) (old := zeroNodeCells) rfl rfl Tryd.sizeRef rfl (nodeCells_one _ _ HV1.out.one) ?_)
  refine (rcmp_tot (H1.out.alloc _)).mono ?_
  rintro e w2 ⟨s, l2, f2, q2, rfl, hs2, hp2, hsee2⟩
  have HB2 := Lib.hid ((HB1.out.alloc _).kp hp2 (by omega))
  have HN2 := Lib.hid ((Blk.new w1 (nodeCells t1 v1) 31).kp hp2 (by omega))
  have HK2 := Lib.hid ((HK1.out.alloc _).trans hp2)
  have HV2 := Lib.hid ((HV1.out.alloc _).kp hp2 (fun b hb => by omega))
  have HS2 := Lib.hid hsee2
  have H2 := Lib.hid hs2
  have hz2 := HN2.out.lt
  clear hs2 hp2 hsee2
  go_wp2_with fail
  refine (rterm_tot H2.out).mono ?_
  rintro e w3 ⟨t2, v2, l3, f3, q3, rfl, hk3, hn3, hs3, hp3, hsee3⟩
  have HB3 := Lib.hid (HB2.out.kp hp3 (by omega))
  have HN3 := Lib.hid (HN2.out.kp hp3 (by omega))
  have HK3 := Lib.hid (HK2.out.trans hp3)
  have HV3 := Lib.hid (HV2.out.kp hp3 (fun b hb => by omega))
  have HW3 := Lib.hid (show KAt 31 w3 t2.kids (fun b => w.heap.size < b) v2 from hk3.mono (fun b hb _ => by omega))
  have HS3 := Lib.hid hsee3
  have H3 := Lib.hid hs3
  have hz3 := HN3.out.lt
  clear hk3 hs3 hp3 hsee3
  unfold NodeV
  have n3 : w3.cell? ⟨w1.heap.size, 3, none⟩ = some (.int .i64 t1.place) := HN3.out.cell 3
  go_wp2_with (first
    | ((with_reducible refine at_st 31 (.tmp 5) ?_); refine wpList_store_new rfl 31 (.tmp 5) (.tmp 11) rfl (nodeCells t2 v2) (old := zeroNodeCells) rfl rfl Tryd.sizeRef rfl (nodeCells_one _ _ HW3.out.one) ?_)
    | ((with_reducible refine at_ld 31 (.tmp 3) ?_); refine wpList_load_node rfl 31 (.tmp 3) rfl w1.heap.size t1 v1 rfl (HN3.out.alloc _) Tryd.underlying31 rfl Tryd.sizeRef ?_)
    | ((with_reducible refine at_ld 31 (.tmp 5) ?_); refine wpList_load_node rfl 31 (.tmp 5) rfl w3.heap.size t2 v2 rfl (Blk.new w3 _ _) Tryd.underlying31 rfl Tryd.sizeRef ?_)
    | ((with_reducible refine at_st 31 (.tmp 2) ?_); refine wpList_store_blk rfl 31 (.tmp 2) (.tmp 18) rfl w.heap.size (nodeCells (T.mk 4 s 0 t1.place [t1, t2]) (.slice (some ⟨w3.heap.size + 1, 0, none⟩) 2 2)) rfl rfl ((HB3.out.alloc _).alloc _) Tryd.sizeRef rfl (nodeCells_one _ _ rfl) ?_))
  have hsz : (w3.alloc (.cells (nodeCells t2 v2).toArray 31)).heap.size = w3.heap.size + 1 := by simp
  have hkk := KAt.lit2 (e := 31) (w := w3.alloc (.cells (nodeCells t2 v2).toArray 31)) (t := t1) (u := t2) (S := fun b => w.heap.size < b) (v := v1) (x := v2) (TAt.of_kids (HV3.out.alloc _)) (TAt.of_kids (HW3.out.alloc _)) (by rw [hsz]; omega)
  rw [hsz] at hkk
  exact ret_blk (cs := nodeCells (T.mk 4 s 0 t1.place [t1, t2]) (.slice (some ⟨w3.heap.size + 1, 0, none⟩) 2 2)) Tryd.results61 rfl ((HB3.out.alloc _).alloc _) Tryd.underlying31 rfl Tryd.sizeRef rfl
    ⟨T.mk 4 s 0 t1.place [t1, t2], _, l3, f3, q3, rfl, (hkk.setRow _ _ (fun b hb => by omega)).mono (fun b hb _ => by omega), by show 2 ≤ 40000; decide, ((H3.out.alloc _).alloc _).same (by simp [World.setRow]) (setRow_other _ _ _ _ (by omega)) (setRow_other _ _ _ _ (by omega)), ((HK3.out.alloc _).alloc _).setRow (Nat.le_refl _) _, sees_fact HS1.out HS2.out HS3.out⟩
end

end Go.Proofs.YtnmpfpnldcgbaaaDoor
