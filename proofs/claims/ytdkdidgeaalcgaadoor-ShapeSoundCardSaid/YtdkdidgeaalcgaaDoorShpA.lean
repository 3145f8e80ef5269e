/- The contracts of shape's leaves: Facts, sortOf, failAt, kidOf, isArray, isKept, the closures that compare a name, slices.IndexFunc, find, Table.Find. -/
import Derived.Test.YtdkdidgeaalcgaaDoorShpM
import Derived.Deep.QuietTactic
import Derived.BigQuiet
import Derived.Deep.LoopGhost
namespace Go.Proofs.YtdkdidgeaalcgaaDoor
open Go.RowKit

theorem Tryd.sizeSType : (Tryd.prog.info? 50).map (·.size) = some 5 := by kernel_rfl
theorem Tryd.sizeParts : (Tryd.prog.info? 93).map (·.size) = some 7 := by kernel_rfl
theorem Tryd.sizeFld : (Tryd.prog.info? 53).map (·.size) = some 2 := by kernel_rfl

/- A literal of things in a new block. -/
theorem RAt.lit {α : Type} {e : TypeId} {m : Nat} {c : α → List Value} (w : World) (xs : List α) (cs : List Value) (n : Nat) (hn : xs.length = n) (hcs : cs = xs.flatMap c) (hl : cs.length = n * m) (hm : n ≤ maxLen) (S : Nat → Prop) (hS : S w.heap.size) :
    RAt e m c (w.alloc (.cells cs.toArray e)) xs S (.slice (some ⟨w.heap.size, 0, none⟩) n n) := by
  subst hn
  refine ⟨⟨by rw [← hcs, hl], .inr ⟨w.heap.size, xs.length, cs.toArray, rfl, Nat.zero_le _, heap_alloc_new w _, Nat.le_refl _, hm, by simpa using hl, ?_⟩⟩, fun g hg => ?_⟩
  · rw [← hcs, ← hl]; simp
  · simp only [Value.ownBlock, Option.some.injEq] at hg; subst hg; exact hS

def FactsPost (w : World) (l : List Fa) (e : Ending) (w' : World) : Prop := ∃ v, e = .returned v ∧ FasAt w' l (fun b => w.heap.size ≤ b) v ∧ Below w.heap.size w w'

set_option maxHeartbeats 1000000 in
theorem facts_any (cmp : ByteArray) (a b k l : Int) (w : World) :
    Calls Tryd.prog 8 #[.string cmp, .int .i64 a, .int .i64 b, .int .i64 k, .int .i64 l] w (FactsPost w (factsL cmp a b k l)) := by
  cases h1 : cmp.toList == [60]
  · cases h2 : cmp.toList == [60, 61]
    · cases h3 : cmp.toList == [61, 61]
      · have HR := Lib.hid (show FactsPost w (factsL cmp a b k l) (.returned (.slice none 0 0)) w by unfold factsL; rw [h1, h2, h3]; exact ⟨_, rfl, RAt.nil _ _, Below.refl _ _⟩)
        go_enter Tryd.func8, Tryd.ntmps8
        go_wp2
        go_ret
        exact HR.out
      · have HR := Lib.hid (show FactsPost w (factsL cmp a b k l) (.returned (.slice (some ⟨w.heap.size, 0, none⟩) 2 2)) (w.alloc (.cells #[.int .i64 a, .int .i64 b, .int .i64 (wrap64 (l - k)), .int .i64 b, .int .i64 a, .int .i64 (wrap64 (k - l))] 30)) by
          unfold factsL; rw [h1, h2, h3]
          exact ⟨_, rfl, RAt.lit w _ _ 2 rfl rfl rfl (by decide) _ (Nat.le_refl _), (Below.refl _ _).alloc (Nat.le_refl _) _⟩)
        go_enter Tryd.func8, Tryd.ntmps8
        go_wp2
        go_ret
        exact HR.out
    · have HR := Lib.hid (show FactsPost w (factsL cmp a b k l) (.returned (.slice (some ⟨w.heap.size, 0, none⟩) 1 1)) (w.alloc (.cells #[.int .i64 a, .int .i64 b, .int .i64 (wrap64 (l - k))] 30)) by
        unfold factsL; rw [h1, h2]
        exact ⟨_, rfl, RAt.lit w _ _ 1 rfl rfl rfl (by decide) _ (Nat.le_refl _), (Below.refl _ _).alloc (Nat.le_refl _) _⟩)
      go_enter Tryd.func8, Tryd.ntmps8
      go_wp2
      go_ret
      exact HR.out
  · have HR := Lib.hid (show FactsPost w (factsL cmp a b k l) (.returned (.slice (some ⟨w.heap.size, 0, none⟩) 1 1)) (w.alloc (.cells #[.int .i64 a, .int .i64 b, .int .i64 (wrap64 (wrap64 (l - k) - 1))] 30)) by
      unfold factsL; rw [h1]
      exact ⟨_, rfl, RAt.lit w _ _ 1 rfl rfl rfl (by decide) _ (Nat.le_refl _), (Below.refl _ _).alloc (Nat.le_refl _) _⟩)
    go_enter Tryd.func8, Tryd.ntmps8
    go_wp2
    go_ret
    exact HR.out

theorem ret_i {a b : Int} (h : a = b) : Ending.returned (.int .i64 a) = .returned (.int .i64 b) := by rw [h]
theorem ret_b {a b : Bool} (h : a = b) : Ending.returned (.bool a) = .returned (.bool b) := by rw [h]

set_option maxHeartbeats 1000000 in
theorem sortOf_any (s : ByteArray) (w : World) :
    Calls Tryd.prog 37 #[.string s] w fun e w' => e = .returned (.int .i64 (sortN s)) ∧ w' = w := by
  have HS := Lib.hid (show ∀ z : Int, sortN s = z → Ending.returned (.int .i64 z) = .returned (.int .i64 (sortN s)) from fun z h => by rw [h])
  cases h1 : s.toList == [99, 101, 108, 108]
  · cases h2 : s.toList == [99, 111, 117, 110, 116, 101, 100]
    · cases h3 : s.toList == [108, 111, 99, 107]
      · cases h4 : s.toList == [103, 117, 97, 114, 100]
        all_goals
          go_enter Tryd.func37, Tryd.ntmps37
          go_wp2
          go_ret
          exact ⟨HS.out _ (by unfold sortN; rw [h1, h2, h3, h4]; rfl), rfl⟩
      · go_enter Tryd.func37, Tryd.ntmps37
        go_wp2
        go_ret
        exact ⟨HS.out _ (by unfold sortN; rw [h1, h2, h3]; rfl), rfl⟩
    · go_enter Tryd.func37, Tryd.ntmps37
      go_wp2
      go_ret
      exact ⟨HS.out _ (by unfold sortN; rw [h1, h2]; rfl), rfl⟩
  · go_enter Tryd.func37, Tryd.ntmps37
    go_wp2
    go_ret
    exact ⟨HS.out _ (by unfold sortN; rw [h1]; rfl), rfl⟩

def sfV (p : Nat) (c : Int) : Value := .iface 65 (.agg #[.int .i64 p, .int .i64 c])
def FailPost (w : World) (p : Nat) (c : Int) (e : Ending) (w' : World) : Prop := e = .panicked [{ v := sfV p c, recovered := false }] ∧ Below w.heap.size w w'
set_option maxHeartbeats 1000000 in
theorem failAt_any (t : T) (kv : Value) (c : Int) (w : World) :
    Calls Tryd.prog 35 #[NodeV t kv, .int .i64 c] w (FailPost w t.place c) := by
  unfold NodeV
  go_enter Tryd.func35, Tryd.ntmps35
  go_wp2
  exact ⟨rfl, rfl, (Below.refl _ _).alloc (Nat.le_refl _) _⟩

theorem kidN_in {t : T} {i : Nat} (h : i < t.kids.length) : kidN t i = t.kids[i] := by unfold kidN; simp [h]
theorem kidN_out {t : T} {i : Nat} (h : t.kids.length ≤ i) : kidN t i = zeroT := by unfold kidN; simp [h]
def KidPost (w : World) (t : T) (S : Nat → Prop) (e : Ending) (w' : World) : Prop := ∃ u, e = .returned (NodeV t u) ∧ KAt 39 w' t.kids S u ∧ Below w.heap.size w w'
theorem KAt.len {e : TypeId} {w : World} {ks : List T} {S : Nat → Prop} {v : Value} (h : KAt e w ks S v) : ∃ a c, v = .slice a ks.length c := by
  rcases h.form with ⟨rfl, rfl⟩ | ⟨g, cap, rfl, _⟩ <;> exact ⟨_, _, rfl⟩

set_option maxRecDepth 100000 in
set_option maxHeartbeats 2000000 in
theorem kidOf_any {w : World} {t : T} {S : Nat → Prop} {kv : Value} (hk : KAt 39 w t.kids S kv) (i : Nat) :
    Calls Tryd.prog 51 #[NodeV t kv, .int .i64 i] w (KidPost w (kidN t i) S) := by
  rcases Nat.lt_or_ge i t.kids.length with hi | hi
  · rw [kidN_in hi]
    rcases hk.form with ⟨rfl, hnil⟩ | ⟨g, cap, rfl, hg, hcap, hcm, hget⟩
    · rw [hnil] at hi; simp at hi
    · obtain ⟨u, hr, hT⟩ := hget i t.kids[i] (List.getElem?_eq_getElem hi)
      generalize t.kids[i] = tk at hr hT ⊢
      generalize t.kids.length = n at *
      unfold NodeV
      clear hget hk
      have HB := Lib.hid (show Below w.heap.size w ((w.alloc (.cells (nodeCells t (.slice (some ⟨g, 0, none⟩) n cap)).toArray 39)).alloc (.cells zeroNodeCells.toArray 39)) from (((Below.refl _ _).alloc (Nat.le_refl _) _).alloc (by simp) _))
      have HRes := Lib.hid (Blk.new2 w (.cells (nodeCells t (.slice (some ⟨g, 0, none⟩) n cap)).toArray 39) zeroNodeCells 39)
      have HR := Lib.hid (rangeAt_below hr (HB.out.mono (Nat.le_refl _)) hg)
      have HT := Lib.hid (hT.below HB.out)
      have HLT := Lib.hid (hT.kat)
      clear hr hT hg
      unfold maxLen at hcm
      go_enter Tryd.func51, Tryd.ntmps51
      go_wp2_with (first
        | ((with_reducible refine at_ld 39 (.tmp 14) ?_); refine wpList_load_mid rfl 39 (.tmp 14) rfl g (i * 5) rfl (nodeCells tk u) _ HR.out Tryd.underlying39 rfl Tryd.sizeNode ?_)
        | ((with_reducible refine at_st 39 (.tmp 4) ?_); refine wpList_store_blk rfl 39 (.tmp 4) (.tmp 15) rfl (w.heap.size + 1) (nodeCells tk u) rfl rfl HRes.out Tryd.sizeNode rfl (nodeCells_one _ _ HT.out.kat.one) ?_))
      exact ret_blk (cs := nodeCells tk u) Tryd.results51 rfl HRes.out Tryd.underlying39 rfl Tryd.sizeNode rfl ⟨u, rfl, HLT.out.keep fun b hb hl => ⟨hb, (setRow_other _ _ _ _ (by omega)).trans (HB.out.block b hl)⟩, Below.row HB.out (by omega) _⟩
  · rw [kidN_out hi]
    obtain ⟨a, c, rfl⟩ := hk.len
    clear hk
    generalize t.kids.length = n at *
    unfold NodeV
    have HW := Lib.hid (show KidPost w zeroT S (.returned (.agg zeroNodeCells.toArray)) (((w.alloc (.cells (nodeCells t (.slice a n c)).toArray 39)).alloc (.cells zeroNodeCells.toArray 39)).setRow (w.heap.size + 1) zeroNodeCells.toArray) from
      ⟨.slice none 0 0, rfl, KAt.nil _ _ _, Below.row (((Below.refl _ _).alloc (Nat.le_refl _) _).alloc (by simp) _) (by omega) _⟩)
    have HRes := Lib.hid (Blk.new2 w (.cells (nodeCells t (.slice a n c)).toArray 39) zeroNodeCells 39)
    have h1 : (n : Int) ≤ i := by omega
    go_enter Tryd.func51, Tryd.ntmps51
    go_wp2_with (first
      | ((with_reducible refine at_st 39 (.tmp 4) ?_); refine wpList_store_blk rfl 39 (.tmp 4) (.tmp 10) rfl (w.heap.size + 1) zeroNodeCells rfl rfl HRes.out Tryd.sizeNode rfl (nodeCells_one zeroT _ rfl) ?_))
    exact ret_blk (cs := zeroNodeCells) Tryd.results51 rfl HRes.out Tryd.underlying39 rfl Tryd.sizeNode rfl HW.out

theorem isEmpty_len {α : Type} (l : List α) : (!l.isEmpty) = decide ((0 : Int) < (l.length : Int)) := by cases l <;> simp <;> omega

set_option maxHeartbeats 1000000 in
theorem isArray_any {w : World} {t : T} {S : Nat → Prop} {kv : Value} (hk : KAt 39 w t.kids S kv) :
    Calls Tryd.prog 49 #[NodeV t kv] w fun e w' => e = .returned (.bool (!t.kids.isEmpty)) ∧ Below w.heap.size w w' := by
  obtain ⟨a, c, rfl⟩ := hk.len
  clear hk
  rw [isEmpty_len]
  generalize t.kids.length = n
  unfold NodeV
  go_enter Tryd.func49, Tryd.ntmps49
  go_wp2
  go_ret
  exact ⟨ret_b (by simp), (Below.refl _ _).alloc (Nat.le_refl _) _⟩

set_option maxHeartbeats 1000000 in
theorem isKept_any (ty : Ty) (p l : Value) (i : Int) (w : World) :
    Calls Tryd.prog 71 #[TyV ty p l, .int .i64 i] w fun e w' => e = .returned (.bool (keptB ty.sort ty.of i)) ∧ Below w.heap.size w w' := by
  obtain ⟨nm, srt, of, fl, fc⟩ := ty
  unfold TyV
  go_enter Tryd.func71, Tryd.ntmps71
  go_wp2
  all_goals go_ret
  all_goals refine ⟨ret_b ?_, (Below.refl _ _).alloc (Nat.le_refl _) _⟩
  all_goals (unfold keptB; simp_all)

end Go.Proofs.YtdkdidgeaalcgaaDoor
