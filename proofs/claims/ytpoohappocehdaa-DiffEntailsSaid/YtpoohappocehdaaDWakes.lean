/- The contracts of lychgatelaw04.wakes and lychgatelaw04.circle. -/
import Derived.Test.YtpoohappocehdaaDEnt2
namespace Go.Proofs.Ytpoohappocehdaa
open Go.RowKit

/- A literal list of two facts. -/
theorem FactsAt.lit2 (w : World) (f g : F) (e : TypeId) (b : Nat) (hb : b = w.heap.size) : FactsAt (w.alloc (.cells #[.int .i64 f.x, .int .i64 f.y, .int .i64 f.c, .int .i64 g.x, .int .i64 g.y, .int .i64 g.c] e)) (w.heap.size + 1) (some ⟨b, 0, none⟩) [f, g] := by
  subst hb
  intro _
  refine ⟨_, 0, rfl, by omega, fun i f' hf => ?_⟩
  have hb : Blk (w.alloc (.cells [Value.int .i64 f.x, .int .i64 f.y, .int .i64 f.c, .int .i64 g.x, .int .i64 g.y, .int .i64 g.c].toArray e)) w.heap.size [.int .i64 f.x, .int .i64 f.y, .int .i64 f.c, .int .i64 g.x, .int .i64 g.y, .int .i64 g.c] e := Blk.new w _ _
  match i, hf with
  | 0, hf =>
    cases hf
    exact ⟨hb.cell 0, hb.cell 1, hb.cell 2⟩
  | 1, hf =>
    cases hf
    exact ⟨hb.cell 3, hb.cell 4, hb.cell 5⟩

def wf1 : F := ⟨0, 1, 2⟩
def wf2 : F := ⟨1, 2, 3⟩
theorem wake_yes : Ent [wf1, wf2] ⟨0, 2, 5⟩ := by
  intro v hv
  have h1 := hv wf1 (by simp)
  have h2 := hv wf2 (by simp)
  unfold Hold wf1 at h1
  unfold Hold wf2 at h2
  unfold Hold
  simp at h1 h2 ⊢
  have e : (Int.toNat 2) = 2 := rfl
  rw [e] at *
  omega
theorem wake_no : ¬ Ent [wf1, wf2] ⟨0, 2, 4⟩ := by
  intro h
  have := h (fun i => if i = 0 then 5 else if i = 1 then 3 else 0) (fun f hf => by
    simp only [List.mem_cons, List.not_mem_nil, or_false] at hf
    rcases hf with rfl | rfl
    · unfold Hold; decide
    · unfold Hold; decide)
  revert this
  unfold Hold
  decide

theorem two_cells (w : World) (f g : F) (k : Nat) (hk : k = w.heap.size) (n : Int) (q : F) (b : Bool) (h0 : entB n q [f, g] = 0) (hb : b = true ↔ Ent [f, g] q) :
    Calls Try.prog 16 #[.int .i64 n, .agg #[.int .i64 q.x, .int .i64 q.y, .int .i64 q.c], .slice (some ⟨k, 0, none⟩) 2 2] (w.alloc (.cells #[.int .i64 f.x, .int .i64 f.y, .int .i64 f.c, .int .i64 g.x, .int .i64 g.y, .int .i64 g.c] 37)) fun e w' =>
      e = .returned (.tuple #[.bool b, .int .i64 0]) ∧ Below w.heap.size w w' := by
  have h := entails_any n q (some ⟨k, 0, none⟩) 2 [f, g] (w.alloc (.cells #[.int .i64 f.x, .int .i64 f.y, .int .i64 f.c, .int .i64 g.x, .int .i64 g.y, .int .i64 g.c] 37)) ((FactsAt.lit2 w f g _ k hk).more (by simp)) (Nat.le_refl _) (by unfold maxLen; omega)
  refine Calls.mono (show Calls Try.prog 16 #[.int .i64 n, .agg #[.int .i64 q.x, .int .i64 q.y, .int .i64 q.c], .slice (some ⟨k, 0, none⟩) 2 2] _ _ from h) ?_
  rintro e w' ⟨b', rfl, _, h2, hbl⟩
  have hb' : b' = b := by
    have := h2 h0
    cases b <;> cases b' <;> simp_all
  rw [hb', h0]
  exact ⟨rfl, ((Below.refl _ _).alloc (Nat.le_refl _) _).trans (hbl.mono (by simp))⟩

def wf3 : F := ⟨0, 1, -1⟩
def wf4 : F := ⟨1, 0, 0⟩
theorem wake_circle {c : List Nat} (h : IsCircle [wf3, wf4] c) (hl : c.length ≤ 2) : c.length = 2 := by
  have h0 := h.ne
  rcases Nat.lt_or_ge c.length 2 with h1 | h1
  · have e : c.length = 1 := by omega
    have hnx := h.nx 0 (by omega)
    have hlt := h.lt 0 (by omega)
    rw [e] at hnx
    simp only [Nat.zero_add, Nat.mod_self] at hnx
    generalize c.getD 0 0 = k at hnx hlt
    match k, hlt with
    | 0, _ => exact absurd hnx (by decide)
    | 1, _ => exact absurd hnx (by decide)
  · omega
theorem wake_none (v : Nat → Int) : ¬ Sol [wf3, wf4] v := by
  intro hv
  have h1 := hv wf3 (by simp)
  have h2 := hv wf4 (by simp)
  unfold Hold wf3 at h1
  unfold Hold wf4 at h2
  simp at h1 h2
  omega

def WakePost (w : World) (e : Ending) (w' : World) : Prop := ∃ A1 n1 c1 A2 c2, e = .returned (.tuple #[.slice A1 n1 c1, .slice A2 2 c2, .int .i64 0]) ∧ Below w.heap.size w w'
theorem wake_solve (w : World) (k : Nat) (hk : k = w.heap.size) :
    Calls Try.prog 10 #[.int .i64 2, .slice (some ⟨k, 0, none⟩) 2 2] (w.alloc (.cells #[.int .i64 0, .int .i64 1, .int .i64 (-1), .int .i64 1, .int .i64 0, .int .i64 0] 37)) (WakePost w) := by
  have fit : FitS 2 [wf3, wf4] := ⟨by decide, by decide, by decide, fun f hf => by
    simp only [List.mem_cons, List.not_mem_nil, or_false] at hf
    rcases hf with rfl | rfl
    · exact ⟨by decide, by decide, by decide, by decide, by decide, by decide⟩
    · exact ⟨by decide, by decide, by decide, by decide, by decide, by decide⟩⟩
  have h := solve_one 2 (some ⟨k, 0, none⟩) 2 [wf3, wf4] (w.alloc (.cells #[.int .i64 0, .int .i64 1, .int .i64 (-1), .int .i64 1, .int .i64 0, .int .i64 0] 37)) ((FactsAt.lit2 w wf3 wf4 _ k hk).more (by simp)) fit
  refine Calls.mono (show Calls Try.prog 10 #[.int .i64 2, .slice (some ⟨k, 0, none⟩) 2 2] _ _ from h) ?_
  rintro e w' ⟨A1, n1, c1, A2, n2, c2, rfl, hans, hbl⟩
  have hn2 : n2 = 2 := by
    rcases hans with ⟨l, g, ⟨_, _, v, hv, _⟩, _⟩ | ⟨c, hc, hl, _, hn, _⟩
    · exact absurd hv.sol (wake_none v)
    · rw [hn]; exact wake_circle hc hl
  subst hn2
  exact ⟨A1, n1, c1, A2, c2, rfl, ((Below.refl _ _).alloc (Nat.le_refl _) _).trans (hbl.mono (by simp))⟩

set_option maxHeartbeats 2000000 in
theorem wakes_any (w : World) : Calls Try.prog 13 #[] w fun e w' => e = .returned (.bool true) ∧ Below w.heap.size w w' := by
  go_enter Try.func13, Try.ntmps13
  go_wp2_with fail
  refine (two_cells w wf1 wf2 _ rfl 3 ⟨0, 2, 5⟩ true (by decide) ⟨fun _ => wake_yes, fun _ => rfl⟩).mono ?_
  rintro e w1 ⟨rfl, hb1⟩
  have HB1 := Lib.hid hb1
  clear hb1
  go_wp2_with fail
  refine (two_cells w1 wf1 wf2 _ rfl 3 ⟨0, 2, 4⟩ false (by decide) ⟨(fun h => by cases h), fun h => absurd h wake_no⟩).mono ?_
  rintro e w2 ⟨rfl, hb2⟩
  have HB2 := Lib.hid (HB1.out.trans (hb2.mono HB1.out.size))
  clear hb2
  go_wp2_with fail
  refine (wake_solve w2 _ rfl).mono ?_
  rintro e w3 ⟨A1, n1, c1, A2, c2, rfl, hb3⟩
  have HB3 := Lib.hid (HB2.out.trans (hb3.mono HB2.out.size))
  clear hb3
  go_wp2
  go_ret
  exact ⟨rfl, HB3.out⟩

end Go.Proofs.Ytpoohappocehdaa
