/- A region that draws its order, all of whose operations leave a condition S as it is: those that yield are taken first, the others walked in their one order. Nothing of the program is walked here. Trees that are alike, as a Bool. Nothing of the program is walked here. -/
import Derived.Test.YtflhniiemmahmaaDoorOrder
import Derived.Test.YtflhniiemmahmaaDoorForms
import Derived.Test.YtflhniiemmahmaaDoorSim
namespace Go.Proofs.YtflhniiemmahmaaDoor
open Go.RowKit

section
variable {P : Program} {ops : Array Oper} {Q : Exit → Act → World → Prop} {md : Region.Mode} {S : World → Prop}
theorem AnyH.one {i : Nat} {o : Oper} {fuel : Nat} {listed : Array Bool} {a : Act} {w : World} (hr : Region.ready md ops listed = [i]) (ho : ops[i]? = some o) (hw : Region.wanted o (yielded ops a.tmps) = true)
    (h : ∀ K : Act → World → Prop, Shut (∀ a w, S w → wpAnyH P md ops Q S fuel (listed.setIfInBounds i true) a w → K a w) → o.wp P a w K Q) : wpAnyH P md ops Q S (fuel + 1) listed a w := by
  refine ⟨(fun h0 => by rw [hr] at h0; cases h0), fun j hj => ?_⟩
  rw [hr] at hj
  obtain rfl : j = i := by simpa using hj
  refine wpOp_step ho fun K' hK => ?_
  rw [if_pos hw]
  exact h K' fun a w hS hA => hK a w ⟨hS, hA⟩
end

mutual
def alikeB (b : Bool) : T → T → Bool
  | .mk k s n p ks, u => !(k != u.kind) && (s.toList == u.text.toList && (!(n != u.num) && (!(b && (p != u.place)) && (!(ks.length != u.kids.length) && alikesB b ks u.kids))))
def alikesB (b : Bool) : List T → List T → Bool
  | [], _ => true
  | t :: ts, us => match us with
    | [] => false
    | u :: us' => alikeB b t u && alikesB b ts us'
end
theorem alike_eq (b : Bool) (t u : T) : alikeB b t u = (!(t.kind != u.kind) && (t.text.toList == u.text.toList && (!(t.num != u.num) && (!(b && (t.place != u.place)) && (!(t.kids.length != u.kids.length) && alikesB b t.kids u.kids))))) := by cases t; rw [alikeB]; rfl
theorem alikes_nil (b : Bool) (us : List T) : alikesB b [] us = true := by rw [alikesB]
theorem alikes_cons (b : Bool) (t u : T) (ts us : List T) : alikesB b (t :: ts) (u :: us) = (alikeB b t u && alikesB b ts us) := by rw [alikesB]
theorem alike_kind {b : Bool} {t u : T} (h : (t.kind != u.kind) = true) : alikeB b t u = false := by rw [alike_eq, h]; rfl
theorem alike_text {b : Bool} {t u : T} (h : (t.text.toList == u.text.toList) = false) : alikeB b t u = false := by rw [alike_eq, h]; simp
theorem alike_num {b : Bool} {t u : T} (h : (t.num != u.num) = true) : alikeB b t u = false := by rw [alike_eq, h]; simp
theorem alike_place {t u : T} (h : (t.place != u.place) = true) : alikeB true t u = false := by rw [alike_eq, h]; simp
theorem alike_len {b : Bool} {t u : T} (h : (t.kids.length != u.kids.length) = true) : alikeB b t u = false := by rw [alike_eq, h]; simp
theorem alike_kids {b : Bool} {t u : T} (h1 : (t.kind != u.kind) = false) (h2 : (t.text.toList == u.text.toList) = true) (h3 : (t.num != u.num) = false) (h4 : b = true → (t.place != u.place) = false) (h5 : (t.kids.length != u.kids.length) = false) : alikeB b t u = alikesB b t.kids u.kids := by
  rw [alike_eq, h1, h2, h3, h5]
  cases b
  · simp
  · rw [h4 rfl]; simp
theorem alikes_drop {b : Bool} {ts us : List T} {k : Nat} {t u : T} (ht : ts[k]? = some t) (hu : us[k]? = some u) : alikesB b (ts.drop k) (us.drop k) = (alikeB b t u && alikesB b (ts.drop (k + 1)) (us.drop (k + 1))) := by
  obtain ⟨h1, h2⟩ := List.getElem?_eq_some_iff.1 ht
  obtain ⟨h3, h4⟩ := List.getElem?_eq_some_iff.1 hu
  rw [List.drop_eq_getElem_cons h1, List.drop_eq_getElem_cons h3, alikes_cons, h2, h4]

theorem KAt.len {e : TypeId} {w : World} {ks : List T} {S : Nat → Prop} {v : Value} (h : KAt e w ks S v) : ∃ a c, v = .slice a ks.length c := by
  obtain ⟨_, ho, _⟩ := h
  rcases ho.2 with ⟨rfl, h0⟩ | ⟨g, cap, _, rfl, _⟩
  · exact ⟨none, 0, by rw [h0]⟩
  · exact ⟨_, _, rfl⟩

mutual
theorem TR.alike {ρ : Nat → Nat → Prop} {b : Bool} (hb : b = true → ∀ p q, ρ p q → p = q) : ∀ {t u : T}, TR ρ t u → alikeB b t u = true
  | .mk k s n p ks, u, h => by
    unfold TR at h
    obtain ⟨h1, h2, h3, h4, h5⟩ := h
    have h6 : ks.length = u.kids.length := TsR.len h5
    have h7 : alikesB b ks u.kids = true := TsR.alike hb h5
    rw [alikeB, h7, ← h1, ← h2, ← h3, ← h6]
    cases b
    · simp
    · rw [← hb rfl _ _ h4]; simp
theorem TsR.alike {ρ : Nat → Nat → Prop} {b : Bool} (hb : b = true → ∀ p q, ρ p q → p = q) : ∀ {ts us : List T}, TsR ρ ts us → alikesB b ts us = true
  | [], us, h => by rw [alikesB]
  | t :: ts, us, h => by
    unfold TsR at h
    obtain ⟨u, us', rfl, h1, h2⟩ := h
    rw [alikes_cons, TR.alike hb h1, TsR.alike hb h2]
    rfl
theorem TsR.len {ρ : Nat → Nat → Prop} : ∀ {ts us : List T}, TsR ρ ts us → ts.length = us.length
  | [], us, h => by unfold TsR at h; rw [h]
  | t :: ts, us, h => by
    unfold TsR at h
    obtain ⟨u, us', rfl, _, h2⟩ := h
    simp [TsR.len h2]
end
mutual
theorem TR.size {ρ : Nat → Nat → Prop} : ∀ {t u : T}, TR ρ t u → t.size = u.size
  | .mk k s n p ks, u, h => by
    unfold TR at h
    obtain ⟨h1, h2, h3, h4, h5⟩ := h
    cases u
    rw [size_mk, size_mk, TsR.sizes h5]
    rfl
theorem TsR.sizes {ρ : Nat → Nat → Prop} : ∀ {ts us : List T}, TsR ρ ts us → Go.Proofs.YtflhniiemmahmaaDoor.sizes ts = Go.Proofs.YtflhniiemmahmaaDoor.sizes us
  | [], us, h => by unfold TsR at h; rw [h]
  | t :: ts, us, h => by
    unfold TsR at h
    obtain ⟨u, us', rfl, h1, h2⟩ := h
    rw [sizes_cons, sizes_cons, TR.size h1, TsR.sizes h2]
end

end Go.Proofs.YtflhniiemmahmaaDoor
