/- lychgatelaw06.val; the document's own memory as one of several things that lie apart, and the contracts of its functions in that form. -/
import Derived.Test.YtnjndggdnmboeaaMRefEnd3
import Derived.Test.YtnjndggdnmboeaaMRefFree
import Derived.Test.YtnjndggdnmboeaaMSep
namespace Go.Proofs.Ytnjndggdnmboeaa
open Go.RowKit

def refT (b : Nat) (s : MS) : Thing where
  P w F := RefAt w b s F
  stay := fun h _ hb => by
    obtain ⟨vl, vs, vc, h1, h2, h3, h4, h5⟩ := h
    exact ⟨vl, vs, vc, h1.same (hb _ h1.blk.lt h2) (fun g hg => hb _ (row_lt h1.live hg) (h3 g hg)) (fun g hg => hb _ (row_lt h1.sizes hg) (h4 g hg)) (fun g hg => hb _ (row_lt h1.cells hg) (h5 g hg)), h2, h3, h4, h5⟩
  more := fun h hF => by
    obtain ⟨vl, vs, vc, h1, h2, h3, h4, h5⟩ := h
    exact ⟨vl, vs, vc, h1, hF _ h1.blk.lt h2, fun g hg => hF _ (row_lt h1.live hg) (h3 g hg), fun g hg => hF _ (row_lt h1.sizes hg) (h4 g hg), fun g hg => hF _ (row_lt h1.cells hg) (h5 g hg)⟩

set_option maxHeartbeats 1000000 in
theorem val_any (v : MV) (w : World) : Calls Try.prog 18 #[.agg #[.int .i64 v.kind, .int .i64 v.n, .int .i64 v.block]] w fun e w' => e = .returned (.agg #[.int .i64 v.kind, .int .i64 v.n, .int .i64 v.block]) ∧ Below w.heap.size w w' := by
  obtain ⟨k, n, b⟩ := v
  go_enter Try.func18, Try.ntmps18
  go_wp2
  exact bodyPost_ret (v := .agg #[.int .i64 k, .int .i64 n, .int .i64 b]) (by simp [results, Try.results18, go_sem]) rfl ⟨by simp, by go_grown⟩

def RSPost (w : World) (l : List Thing) (v : Value) (e : Ending) (W' : World) : Prop := e = .returned v ∧ Sep w W' l
section
variable {w W : World} {l l' : List Thing} {b : Nat} {s s' : MS}
theorem Sep.refCall (h : Sep w W l) (i : Nat) (hi : l[i]? = some (refT b s)) : ∃ F, RefAt W b s F ∧ ∀ W' s', Ch F W W' → RefAt W' b s' (grow F W W') → Sep w W' (l.set i (refT b s')) := by
  obtain ⟨F, hF, hn⟩ := h.call i _ hi
  exact ⟨F, hF, fun W' s' hc hm => hn W' (refT b s') hc hm⟩
theorem Sep.ref (h : Sep w W l) (i : Nat) (hi : l[i]? = some (refT b s)) : ∃ O, RefAt W b s O := by
  obtain ⟨F, hF, _⟩ := h.refCall i hi
  exact ⟨F, hF⟩
theorem Sep.rfree (h : Sep w W l) (i : Nat) (hi : l[i]? = some (refT b s)) (p : MV) {c : Int} (hs : freeS s p = s' ∧ freeW s p = c) (hl : l.set i (refT b s') = l') :
    Calls Try.prog 20 #[.pointer (some ⟨b, 0, none⟩), .agg #[.int .i64 p.kind, .int .i64 p.n, .int .i64 p.block]] W (RSPost w l' (.int .i64 c)) := by
  obtain ⟨rfl, rfl⟩ := hs
  subst hl
  obtain ⟨F, hF, hn⟩ := h.refCall i hi
  refine (refFree_any hF p).mono ?_
  rintro e W' ⟨rfl, hm, hc⟩
  exact ⟨rfl, hn W' _ hc hm⟩
theorem Sep.rbegin (h : Sep w W l) (i : Nat) (hi : l[i]? = some (refT b s)) (p : MV) (wr : Bool) {N : Int} (hN : Rd s N) (hN1 : N ≤ 1000000) {c : Int} (hs : beginS s p wr = s' ∧ beginW s p wr = c) (hl : l.set i (refT b s') = l') :
    Calls Try.prog 21 #[.pointer (some ⟨b, 0, none⟩), .agg #[.int .i64 p.kind, .int .i64 p.n, .int .i64 p.block], .bool wr] W (RSPost w l' (.int .i64 c)) := by
  obtain ⟨rfl, rfl⟩ := hs
  subst hl
  obtain ⟨F, hF, hn⟩ := h.refCall i hi
  refine (refBegin_any hF p wr hN hN1).mono ?_
  rintro e W' ⟨rfl, hm, hc⟩
  exact ⟨rfl, hn W' _ hc hm⟩
theorem refEnd_any {O : Nat → Prop} (hh : RefAt W b s O) (p : MV) (wr : Bool) (x : MV) {N : Int} (hN : Rd s N) (hN1 : N ≤ 1000000) :
    Calls Try.prog 22 #[.pointer (some ⟨b, 0, none⟩), .agg #[.int .i64 p.kind, .int .i64 p.n, .int .i64 p.block], .bool wr, .agg #[.int .i64 x.kind, .int .i64 x.n, .int .i64 x.block]] W (RPost b (endS s p wr x) (.tuple #[vV (endV s p wr), .int .i64 (endW s p wr)]) O W) := by
  cases wr
  · exact refEndR_any hh p x hN hN1
  · exact refEndW_any hh p x hN hN1
theorem Sep.rend (h : Sep w W l) (i : Nat) (hi : l[i]? = some (refT b s)) (p : MV) (wr : Bool) (x : MV) {N : Int} (hN : Rd s N) (hN1 : N ≤ 1000000) {v : MV} {c : Int} (hs : endS s p wr x = s' ∧ endV s p wr = v ∧ endW s p wr = c) (hl : l.set i (refT b s') = l') :
    Calls Try.prog 22 #[.pointer (some ⟨b, 0, none⟩), .agg #[.int .i64 p.kind, .int .i64 p.n, .int .i64 p.block], .bool wr, .agg #[.int .i64 x.kind, .int .i64 x.n, .int .i64 x.block]] W (RSPost w l' (.tuple #[.agg #[.int .i64 v.kind, .int .i64 v.n, .int .i64 v.block], .int .i64 c])) := by
  obtain ⟨rfl, rfl, rfl⟩ := hs
  subst hl
  obtain ⟨F, hF, hn⟩ := h.refCall i hi
  refine (refEnd_any hF p wr x hN hN1).mono ?_
  rintro e W' ⟨rfl, hm, hc⟩
  exact ⟨rfl, hn W' _ hc hm⟩
theorem Sep.rlock (h : Sep w W l) (i : Nat) (hi : l[i]? = some (refT b s)) (p : MV) {ok : Bool} {c : Int} (hs : lockS s p = s' ∧ lockR s p = ok ∧ lockW s p = c) (hl : l.set i (refT b s') = l') :
    Calls Try.prog 23 #[.pointer (some ⟨b, 0, none⟩), .agg #[.int .i64 p.kind, .int .i64 p.n, .int .i64 p.block]] W (RSPost w l' (.tuple #[.bool ok, .int .i64 c])) := by
  obtain ⟨rfl, rfl, rfl⟩ := hs
  subst hl
  obtain ⟨F, hF, hn⟩ := h.refCall i hi
  refine (refLock_any hF p).mono ?_
  rintro e W' ⟨rfl, hm, hc⟩
  exact ⟨rfl, hn W' _ hc hm⟩
theorem Sep.runlock (h : Sep w W l) (i : Nat) (hi : l[i]? = some (refT b s)) (p : MV) {c : Int} (hs : unlockS s p = s' ∧ lockW s p = c) (hl : l.set i (refT b s') = l') :
    Calls Try.prog 24 #[.pointer (some ⟨b, 0, none⟩), .agg #[.int .i64 p.kind, .int .i64 p.n, .int .i64 p.block]] W (RSPost w l' (.int .i64 c)) := by
  obtain ⟨rfl, rfl⟩ := hs
  subst hl
  obtain ⟨F, hF, hn⟩ := h.refCall i hi
  refine (refUnlock_any hF p).mono ?_
  rintro e W' ⟨rfl, hm, hc⟩
  exact ⟨rfl, hn W' _ hc hm⟩
end

theorem RefIs.zero (w : World) : RefIs (w.alloc (.cells #[.slice none 0 0, .slice none 0 0, .slice none 0 0, .int .i64 0] 30)) w.heap.size (.slice none 0 0) (.slice none 0 0) (.slice none 0 0) [] :=
  ⟨Blk.new w [.slice none 0 0, .slice none 0 0, .slice none 0 0, .int .i64 0] _, World.ownsRow_nil _ _ _ _, World.ownsRow_nil _ _ _ _, World.ownsRow_nil _ _ _ _, (fun _ hg => by cases hg), (fun _ hg => by cases hg), (fun _ hg => by cases hg), (by simp [usedS])⟩
theorem Sep.newRef {w W : World} {l : List Thing} (h : Sep w W l) : Sep w (W.alloc (.cells #[.slice none 0 0, .slice none 0 0, .slice none 0 0, .int .i64 0] 30)) (l ++ [refT W.heap.size []]) :=
  h.add ((Below.refl _ _).alloc (Nat.le_refl _) _) (refT W.heap.size []) ⟨_, _, _, RefIs.zero W, .inr ⟨Nat.le_refl _, by simp⟩, (fun _ hg => by cases hg), (fun _ hg => by cases hg), (fun _ hg => by cases hg)⟩

end Go.Proofs.Ytnjndggdnmboeaa
