/- A region that draws its order, all of whose operations leave a condition S as it is: where one operation alone may come up, it is walked. Nothing of the program is walked here. -/
import Derived.Test.YtejnjaikalckiaaHCk
import Derived.OrdersHeld
import Derived.Deep.RegionHeld
namespace Go.Proofs.Ytejnjaikalckiaa
open Go.RowKit

section
variable {P : Program} {ops : Array Oper} {Q : Exit → Act → World → Prop} {md : Region.Mode} {S : World → Prop}
theorem AnyH.only {i : Nat} {o : Oper} {fuel : Nat} {listed : Array Bool} {a : Act} {w : World} (hr : Region.ready md ops listed = [i]) (ho : ops[i]? = some o) (hw : Region.wanted o (yielded ops a.tmps) = true)
    (h : ∀ K : Act → World → Prop, Shut (∀ a w, S w → wpAnyH P md ops Q S fuel (listed.setIfInBounds i true) a w → K a w) → o.wp P a w K Q) : wpAnyH P md ops Q S (fuel + 1) listed a w := by
  refine ⟨(fun h0 => by rw [hr] at h0; cases h0), fun j hj => ?_⟩
  rw [hr] at hj
  obtain rfl : j = i := by simpa using hj
  refine wpOp_step ho fun K' hK => ?_
  rw [if_pos hw]
  exact h K' fun a w hS hA => hK a w ⟨hS, hA⟩
end

section
variable {P : Program} {ops : Array Oper} {Q : Exit → Act → World → Prop} {md : Region.Mode} {S : World → Prop}

/- Whatever order is picked from here on; and S holds behind each operation that leaves another one to come. -/
def AnyE (P : Program) (md : Region.Mode) (ops : Array Oper) (Q : Exit → Act → World → Prop) (S : World → Prop) : Nat → Array Bool → Act → World → Prop
  | 0, listed, a, w => Region.ready md ops listed = [] ∧ Q .normal a w
  | fuel + 1, listed, a, w =>
    (Region.ready md ops listed = [] → Q .normal a w) ∧
    ∀ i ∈ Region.ready md ops listed, wpOp P ops Q i (fun a' w' => (i + 1 ≠ ops.size → S w') ∧ AnyE P md ops Q S fuel (listed.setIfInBounds i true) a' w') a w

theorem AnyE.any : ∀ (fuel : Nat) (listed : Array Bool) (a : Act) (w : World), AnyE P md ops Q S fuel listed a w → wpAny P md ops Q fuel listed a w
  | 0, _, _, _, h => h
  | fuel + 1, _, _, _, h => ⟨h.1, fun i hi => wpOp_mono (fun a' w' h' => AnyE.any fuel _ a' w' h'.2) (h.2 i hi)⟩

/- Does the last operation wait for that one? -/
def lastWaits (md : Region.Mode) (ops : Array Oper) (i : Nat) : Bool :=
  match ops[ops.size - 1]? with
  | some o => o.after.any fun e => Region.binds md e && e.on == i
  | none => false

theorem AnyE.first {i : Nat} {oi : Oper} {v : Value} (hi : ops[i]? = some oi) (hlw : lastWaits md ops i = true) (hsel : ∀ (j : Nat) (o : Oper) cs b, ops[j]? = some o → o.op ≠ .select cs b)
    (hQ : ∀ c a w, Q (.panic c) (a.put oi.dst v) w → Q (.panic c) a w) :
    ∀ (fuel : Nat) (listed : Array Bool) (a : Act) (w : World),
      (∀ j oj, ops[j]? = some oj → j ≠ i → listed.getD j true = false → (∀ e ∈ oj.after, Region.binds md e = true → e.on ≠ i) → oi.apart ops oj = true) →
      i ∈ Region.ready md ops listed → YieldsIf P ops S oi v a → S w →
      AnyE P md ops Q S fuel (listed.setIfInBounds i true) (a.put oi.dst v) w → AnyE P md ops Q S (fuel + 1) listed a w := by
  intro fuel
  induction fuel with
  | zero =>
    intro listed a w _ hr hy hS H
    refine ⟨fun h => (by rw [h] at hr; cases hr), fun j hj => ?_⟩
    by_cases hji : j = i
    · subst hji; exact hy.wpOp hi hS ⟨fun _ => hS, H⟩
    · have := ready_mono hj hji
      rw [H.1] at this
      cases this
  | succ fuel ih =>
    intro listed a w hfree hr hy hS H
    refine ⟨fun h => (by rw [h] at hr; cases hr), fun j hj => ?_⟩
    by_cases hji : j = i
    · subst hji; exact hy.wpOp hi hS ⟨fun _ => hS, H⟩
    · have h0 := (mem_ready.1 hr).1
      have hun : (listed.setIfInBounds j true).getD i true = false := by rw [getD_set_ne true hji]; exact h0
      obtain ⟨hjun, oj, hoj, hall⟩ := mem_ready.1 hj
      have hnot : ∀ e ∈ oj.after, Region.binds md e = true → e.on ≠ i := fun e he hb heq => by
        have h1 := hall e he hb
        rw [heq] at h1
        rcases Nat.lt_or_ge i listed.size with h' | h'
        · simp [h'] at h0 h1; rw [h0] at h1; cases h1
        · simp [Array.getElem?_eq_none h'] at h1
      have hfree' : ∀ k ok, ops[k]? = some ok → k ≠ i → (listed.setIfInBounds j true).getD k true = false →
          (∀ e ∈ ok.after, Region.binds md e = true → e.on ≠ i) → oi.apart ops ok = true := fun k ok hk hki hunk hno => by
        refine hfree k ok hk hki ?_ hno
        by_cases hjk : j = k
        · subst hjk; exact hjun
        · rw [getD_set_ne true hjk] at hunk; exact hunk
      have h1 := H.2 j (ready_mono hj hji)
      have h2 := wpOp_putIf hoj (hfree j oj hoj hji hjun hnot) (fun cs b => hsel i oi cs b hi) (fun cs b => hsel j oj cs b hoj) hQ hy h1
      have hlast : j + 1 ≠ ops.size := fun he => by
        have hj' : ops.size - 1 = j := by omega
        unfold lastWaits at hlw
        rw [hj', hoj] at hlw
        obtain ⟨k, hk, hb⟩ := Array.any_eq_true.1 hlw
        simp only [Bool.and_eq_true, beq_iff_eq] at hb
        exact hnot _ (Array.getElem_mem hk) hb.1 hb.2
      refine wpOp_mono (fun a' w' h3 => ?_) h2
      have hS' : S w' := h3.2.1 hlast
      refine ⟨fun _ => hS', ih (listed.setIfInBounds j true) a' w' hfree' (ready_mono hr (Ne.symm hji)) h3.1 hS' ?_⟩
      rw [Array.setIfInBounds_comm _ _ hji]
      exact h3.2.2

/- Take number i first. -/
theorem AnyE.take {i : Nat} {oi : Oper} {v : Value} {fuel : Nat} {listed : Array Bool} {a : Act} {w : World} (hi : ops[i]? = some oi) (hlw : lastWaits md ops i = true)
    (hs : Region.noSelect ops = true) (hf : Region.free md ops listed i = true) (hr : (Region.ready md ops listed).contains i = true)
    (hQ : ∀ c a w, Q (.panic c) (a.put oi.dst v) w → Q (.panic c) a w) (hy : YieldsIf P ops S oi v a) (hS : S w)
    (h : AnyE P md ops Q S fuel (listed.setIfInBounds i true) (a.put oi.dst v) w) : AnyE P md ops Q S (fuel + 1) listed a w :=
  AnyE.first hi hlw (Region.noSelect_spec hs) hQ fuel listed a w (Region.free_spec hi hf) (by simpa using hr) hy hS h

/- The one that may come up. -/
theorem AnyE.one {i : Nat} {o : Oper} {fuel : Nat} {listed : Array Bool} {a : Act} {w : World} (hr : Region.ready md ops listed = [i]) (ho : ops[i]? = some o) (hw : Region.wanted o (yielded ops a.tmps) = true)
    (h : ∀ K : Act → World → Prop, Shut (∀ a w, (i + 1 ≠ ops.size → S w) → AnyE P md ops Q S fuel (listed.setIfInBounds i true) a w → K a w) → o.wp P a w K Q) : AnyE P md ops Q S (fuel + 1) listed a w := by
  refine ⟨(fun h0 => by rw [hr] at h0; cases h0), fun j hj => ?_⟩
  rw [hr] at hj
  obtain rfl : j = i := by simpa using hj
  refine wpOp_step ho fun K' hK => ?_
  rw [if_pos hw]
  exact h K' fun a w hS hA => hK a w ⟨hS, hA⟩

theorem AnyE.done {listed : Array Bool} {a : Act} {w : World} (hr : Region.ready md ops listed = []) (h : Q .normal a w) : ∀ fuel, AnyE P md ops Q S fuel listed a w
  | 0 => ⟨hr, h⟩
  | _ + 1 => ⟨fun _ => h, by rw [hr]; simp⟩

theorem AnyE.begin {id : Nat} {a : Act} {w : World} (hm : P.follows .mixedOrders = true) (h : AnyE P .any ops Q S ops.size (Array.replicate ops.size false) a w.drew) : (Code.region id ops true).wp P Q a w :=
  wp_region_any hm (AnyE.any _ _ _ _ h)

theorem AnyE.begin2 {id : Nat} {a : Act} {w : World} (hm : P.follows .mixedOrders = true) (hS : S w.drew) (h : S w.drew → AnyE P .any ops Q S ops.size (Array.replicate ops.size false) a w.drew) : (Code.region id ops true).wp P Q a w :=
  AnyE.begin hm (h hS)

end

section
variable {P : Program} {ops : Array Oper} {Q : Exit → Act → World → Prop} {md : Region.Mode} {S : World → Prop}
theorem AnyH.pair {i k : Nat} {o u : Oper} {fuel : Nat} {listed : Array Bool} {a : Act} {w : World} (hr : Region.ready md ops listed = [i, k]) (ho : ops[i]? = some o) (hu : ops[k]? = some u) (hw : Region.wanted o (yielded ops a.tmps) = true) (hv : Region.wanted u (yielded ops a.tmps) = true)
    (h : ∀ K : Act → World → Prop, Shut (∀ a w, S w → wpAnyH P md ops Q S fuel (listed.setIfInBounds i true) a w → K a w) → o.wp P a w K Q)
    (h' : ∀ K : Act → World → Prop, Shut (∀ a w, S w → wpAnyH P md ops Q S fuel (listed.setIfInBounds k true) a w → K a w) → u.wp P a w K Q) : wpAnyH P md ops Q S (fuel + 1) listed a w := by
  refine ⟨(fun h0 => by rw [hr] at h0; cases h0), fun j hj => ?_⟩
  rw [hr] at hj
  have hj2 : j = i ∨ j = k := by simpa using hj
  rcases hj2 with rfl | rfl
  · refine wpOp_step ho fun K' hK => ?_
    rw [if_pos hw]
    exact h K' fun a w hS hA => hK a w ⟨hS, hA⟩
  · refine wpOp_step hu fun K' hK => ?_
    rw [if_pos hv]
    exact h' K' fun a w hS hA => hK a w ⟨hS, hA⟩
theorem AnyH.three {i j k : Nat} {o u v : Oper} {fuel : Nat} {listed : Array Bool} {a : Act} {w : World} (hr : Region.ready md ops listed = [i, j, k]) (ho : ops[i]? = some o) (hu : ops[j]? = some u) (hv : ops[k]? = some v) (hwo : Region.wanted o (yielded ops a.tmps) = true) (hwu : Region.wanted u (yielded ops a.tmps) = true) (hwv : Region.wanted v (yielded ops a.tmps) = true)
    (h : ∀ K : Act → World → Prop, Shut (∀ a w, S w → wpAnyH P md ops Q S fuel (listed.setIfInBounds i true) a w → K a w) → o.wp P a w K Q)
    (h' : ∀ K : Act → World → Prop, Shut (∀ a w, S w → wpAnyH P md ops Q S fuel (listed.setIfInBounds j true) a w → K a w) → u.wp P a w K Q)
    (h'' : ∀ K : Act → World → Prop, Shut (∀ a w, S w → wpAnyH P md ops Q S fuel (listed.setIfInBounds k true) a w → K a w) → v.wp P a w K Q) : wpAnyH P md ops Q S (fuel + 1) listed a w := by
  refine ⟨(fun h0 => by rw [hr] at h0; cases h0), fun q hq => ?_⟩
  rw [hr] at hq
  have hq2 : q = i ∨ q = j ∨ q = k := by simpa using hq
  rcases hq2 with rfl | rfl | rfl
  · refine wpOp_step ho fun K' hK => ?_
    rw [if_pos hwo]
    exact h K' fun a w hS hA => hK a w ⟨hS, hA⟩
  · refine wpOp_step hu fun K' hK => ?_
    rw [if_pos hwu]
    exact h' K' fun a w hS hA => hK a w ⟨hS, hA⟩
  · refine wpOp_step hv fun K' hK => ?_
    rw [if_pos hwv]
    exact h'' K' fun a w hS hA => hK a w ⟨hS, hA⟩
end


theorem keepC {W w2 : World} {b o : Nat} {v : Value} (h : W.cell? ⟨b, o, none⟩ = some v) (hb : Below W.heap.size W w2) : w2.cell? ⟨b, o, none⟩ = some v := (hb.cell (p := ⟨b, o, none⟩) (cell_lt h)).trans h

theorem keepS {W : World} {b o g j : Nat} {v u : Value} (h : W.cell? ⟨b, o, none⟩ = some v) (hne : g ≠ b) : (W.setCell ⟨g, j, none⟩ u).cell? ⟨b, o, none⟩ = some v := (World.cell?_setCell_far W ⟨g, j, none⟩ ⟨b, o, none⟩ u hne).trans h

/- A value stored into a box, cell by cell. -/
theorem Blk.put4 {W : World} {g : Nat} {a b c d : Value} {t : TypeId} (h : Blk W g [a, b, c, d] t) (s : Sy) : Blk ((((W.setCell ⟨g, 0, none⟩ (.int .i64 s.kind)).setCell ⟨g, 1, none⟩ (.int .i64 s.v)).setCell ⟨g, 2, none⟩ (.int .i64 s.k)).setCell ⟨g, 3, none⟩ (.int .i64 s.b)) g (syCells s) t := (((h.put 0 _).put 1 _).put 2 _).put 3 _
theorem Blk.far4 {W : World} {g g' : Nat} {cs : List Value} {t : TypeId} (h : Blk W g' cs t) (hn : g' ≠ g) (s : Sy) : Blk ((((W.setCell ⟨g, 0, none⟩ (.int .i64 s.kind)).setCell ⟨g, 1, none⟩ (.int .i64 s.v)).setCell ⟨g, 2, none⟩ (.int .i64 s.k)).setCell ⟨g, 3, none⟩ (.int .i64 s.b)) g' cs t := (((h.far (p := ⟨g, 0, none⟩) hn _).far (p := ⟨g, 1, none⟩) hn _).far (p := ⟨g, 2, none⟩) hn _).far (p := ⟨g, 3, none⟩) hn _
theorem below4 {m : Nat} {w W : World} {g : Nat} (h : Below m w W) (hg : m ≤ g) (s : Sy) : Below m w ((((W.setCell ⟨g, 0, none⟩ (.int .i64 s.kind)).setCell ⟨g, 1, none⟩ (.int .i64 s.v)).setCell ⟨g, 2, none⟩ (.int .i64 s.k)).setCell ⟨g, 3, none⟩ (.int .i64 s.b)) := (((h.setCell (p := ⟨g, 0, none⟩) hg _).setCell (p := ⟨g, 1, none⟩) hg _).setCell (p := ⟨g, 2, none⟩) hg _).setCell (p := ⟨g, 3, none⟩) hg _

end Go.Proofs.Ytejnjaikalckiaa
