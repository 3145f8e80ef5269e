/- The contracts of mem.Memory's methods where the memory is one of several things that lie apart. -/
import Derived.Test.YtnjndggdnmboeaaMAlloc2
import Derived.Test.YtnjndggdnmboeaaMSep
namespace Go.Proofs.Ytnjndggdnmboeaa
open Go.RowKit

theorem Sep.memCall {w W : World} {l : List Thing} (h : Sep w W l) (i : Nat) {b : Nat} {s : MS} (hi : l[i]? = some (memT b s)) : ∃ F, MemAt W b s F ∧ ∀ W' s', Ch F W W' → MemAt W' b s' (grow F W W') → Sep w W' (l.set i (memT b s')) := by
  obtain ⟨F, hF, hn⟩ := h.call i _ hi
  exact ⟨F, hF, fun W' s' hc hm => hn W' (memT b s') hc hm⟩

def SPost (w : World) (l : List Thing) (v : Value) (e : Ending) (W' : World) : Prop := e = .returned v ∧ Sep w W' l
section
variable {w W : World} {l l' : List Thing} {b : Nat} {s s' : MS}
theorem Sep.newMem (h : Sep w W l) (hl : l ++ [memT W.heap.size []] = l') : Calls Try.prog 6 #[] W (SPost w l' (.pointer (some ⟨W.heap.size, 0, none⟩))) := by
  subst hl
  refine (new_any W).mono ?_
  rintro e W' ⟨rfl, hm, hb⟩
  exact ⟨rfl, h.add hb (memT W.heap.size []) hm⟩
theorem Sep.alloc (h : Sep w W l) (i : Nat) (hi : l[i]? = some (memT b s)) (n : Int) {v : MV} {ok : Bool} (hs : allocS s n = s' ∧ allocV s n = v ∧ allocOK s n = ok) (hl : l.set i (memT b s') = l') :
    Calls Try.prog 12 #[.pointer (some ⟨b, 0, none⟩), .int .i64 n] W (SPost w l' (.tuple #[.agg #[.int .i64 v.kind, .int .i64 v.n, .int .i64 v.block], .bool ok])) := by
  obtain ⟨rfl, rfl, rfl⟩ := hs
  subst hl
  obtain ⟨F, hF, hn⟩ := h.memCall i hi
  refine (alloc_any hF n).mono ?_
  rintro e W' ⟨rfl, hm, hc⟩
  exact ⟨rfl, hn W' _ hc hm⟩
theorem Sep.free (h : Sep w W l) (i : Nat) (hi : l[i]? = some (memT b s)) (p : MV) {c : Int} (hs : freeS s p = s' ∧ freeW s p = c) (hl : l.set i (memT b s') = l') :
    Calls Try.prog 15 #[.pointer (some ⟨b, 0, none⟩), .agg #[.int .i64 p.kind, .int .i64 p.n, .int .i64 p.block]] W (SPost w l' (.int .i64 c)) := by
  obtain ⟨rfl, rfl⟩ := hs
  subst hl
  obtain ⟨F, hF, hn⟩ := h.memCall i hi
  refine (free_any hF p).mono ?_
  rintro e W' ⟨rfl, hm, hc⟩
  exact ⟨rfl, hn W' _ hc hm⟩
theorem Sep.begin (h : Sep w W l) (i : Nat) (hi : l[i]? = some (memT b s)) (p : MV) (wr : Bool) {N : Int} (hN : Rd s N) (hN1 : N ≤ 1000000) {c : Int} (hs : beginS s p wr = s' ∧ beginW s p wr = c) (hl : l.set i (memT b s') = l') :
    Calls Try.prog 16 #[.pointer (some ⟨b, 0, none⟩), .agg #[.int .i64 p.kind, .int .i64 p.n, .int .i64 p.block], .bool wr] W (SPost w l' (.int .i64 c)) := by
  obtain ⟨rfl, rfl⟩ := hs
  subst hl
  obtain ⟨F, hF, hn⟩ := h.memCall i hi
  refine (begin_any hF p wr hN hN1).mono ?_
  rintro e W' ⟨rfl, hm, hc⟩
  exact ⟨rfl, hn W' _ hc hm⟩
theorem Sep.end (h : Sep w W l) (i : Nat) (hi : l[i]? = some (memT b s)) (p : MV) (wr : Bool) (x : MV) {N : Int} (hN : Rd s N) (hN1 : N ≤ 1000000) {v : MV} {c : Int} (hs : endS s p wr x = s' ∧ endV s p wr = v ∧ endW s p wr = c) (hl : l.set i (memT b s') = l') :
    Calls Try.prog 13 #[.pointer (some ⟨b, 0, none⟩), .agg #[.int .i64 p.kind, .int .i64 p.n, .int .i64 p.block], .bool wr, .agg #[.int .i64 x.kind, .int .i64 x.n, .int .i64 x.block]] W (SPost w l' (.tuple #[.agg #[.int .i64 v.kind, .int .i64 v.n, .int .i64 v.block], .int .i64 c])) := by
  obtain ⟨rfl, rfl, rfl⟩ := hs
  subst hl
  obtain ⟨F, hF, hn⟩ := h.memCall i hi
  refine (end_any hF p wr x hN hN1).mono ?_
  rintro e W' ⟨rfl, hm, hc⟩
  exact ⟨rfl, hn W' _ hc hm⟩
theorem Sep.lock (h : Sep w W l) (i : Nat) (hi : l[i]? = some (memT b s)) (p : MV) {ok : Bool} {c : Int} (hs : lockS s p = s' ∧ lockR s p = ok ∧ lockW s p = c) (hl : l.set i (memT b s') = l') :
    Calls Try.prog 14 #[.pointer (some ⟨b, 0, none⟩), .agg #[.int .i64 p.kind, .int .i64 p.n, .int .i64 p.block]] W (SPost w l' (.tuple #[.bool ok, .int .i64 c])) := by
  obtain ⟨rfl, rfl, rfl⟩ := hs
  subst hl
  obtain ⟨F, hF, hn⟩ := h.memCall i hi
  refine (lock_any hF p).mono ?_
  rintro e W' ⟨rfl, hm, hc⟩
  exact ⟨rfl, hn W' _ hc hm⟩
theorem Sep.unlock (h : Sep w W l) (i : Nat) (hi : l[i]? = some (memT b s)) (p : MV) {c : Int} (hs : unlockS s p = s' ∧ lockW s p = c) (hl : l.set i (memT b s') = l') :
    Calls Try.prog 17 #[.pointer (some ⟨b, 0, none⟩), .agg #[.int .i64 p.kind, .int .i64 p.n, .int .i64 p.block]] W (SPost w l' (.int .i64 c)) := by
  obtain ⟨rfl, rfl⟩ := hs
  subst hl
  obtain ⟨F, hF, hn⟩ := h.memCall i hi
  refine (unlock_any hF p).mono ?_
  rintro e W' ⟨rfl, hm, hc⟩
  exact ⟨rfl, hn W' _ hc hm⟩
theorem Sep.used (h : Sep w W l) (i : Nat) (hi : l[i]? = some (memT b s)) {u : Int} (hu : (usedS s : Int) = u) :
    Calls Try.prog 11 #[.pointer (some ⟨b, 0, none⟩)] W fun e W' => e = .returned (.int .i64 u) ∧ W = W' := by
  subst hu
  obtain ⟨O, hO⟩ := h.mem i hi
  exact used_any hO
/- A box with a value. -/
theorem Sep.boxV (h : Sep w W l) (v : MV) (hl : l ++ [boxT W.heap.size (vCells v) 34] = l') : Sep w (W.alloc (.cells #[.int .i64 v.kind, .int .i64 v.n, .int .i64 v.block] 34)) l' := by
  subst hl
  exact h.box (vCells v) _
theorem Sep.boxAt (h : Sep w W l) (i : Nat) {g : Nat} {v : MV} (hi : l[i]? = some (boxT g (vCells v) 34)) : W.cell? ⟨g, 0, none⟩ = some (.int .i64 v.kind) ∧ W.cell? ⟨g, 1, none⟩ = some (.int .i64 v.n) ∧ W.cell? ⟨g, 2, none⟩ = some (.int .i64 v.block) ∧ g < W.heap.size :=
  have hb := h.blk i hi
  ⟨hb.cell 0, hb.cell 1, hb.cell 2, hb.lt⟩
end

end Go.Proofs.Ytnjndggdnmboeaa
