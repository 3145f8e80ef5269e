/- Things that lie apart in memory, each in blocks of its own: what a call does to one of them leaves the others as they are. -/
import Derived.Test.YtnjndggdnmboeaaMWord
namespace Go.Proofs.Ytnjndggdnmboeaa
open Go.RowKit

/- A thing in memory: what holds of a world and of the blocks it may lie in. -/
structure Thing where
  P : World → (Nat → Prop) → Prop
  stay : ∀ {w w' : World} {F : Nat → Prop}, P w F → w.heap.size ≤ w'.heap.size → (∀ k, k < w.heap.size → F k → w'.heap[k]? = w.heap[k]?) → P w' F
  more : ∀ {w : World} {F F' : Nat → Prop}, P w F → (∀ k, k < w.heap.size → F k → F' k) → P w F'

/- The things of a list lie apart from one another and from all that was there in the world w; nothing of that has changed. -/
structure SepF (w W : World) (l : List Thing) (F : Nat → Nat → Prop) : Prop where
  below : Below w.heap.size w W
  holds : ∀ (i : Nat) (T : Thing), l[i]? = some T → T.P W (F i)
  above : ∀ i k, F i k → w.heap.size ≤ k ∧ k < W.heap.size
  apart : ∀ i j k, i ≠ j → F i k → F j k → False
def Sep (w W : World) (l : List Thing) : Prop := ∃ F, SepF w W l F

theorem Sep.below {w W : World} {l : List Thing} (h : Sep w W l) : Below w.heap.size w W := by
  obtain ⟨F, h⟩ := h
  exact h.below
theorem Sep.start (w : World) : Sep w w [] := ⟨fun _ _ => False, Below.refl _ _, (fun _ _ h => by simp at h), fun _ _ h => h.elim, fun _ _ _ _ h _ => h.elim⟩
theorem Sep.quiet {w W W' : World} {l : List Thing} (h : Sep w W l) (hb : Below W.heap.size W W') : Sep w W' l := by
  obtain ⟨F, h⟩ := h
  exact ⟨F, h.below.trans (hb.mono h.below.size), fun i T hT => T.stay (h.holds i T hT) hb.size (fun k hk _ => hb.block k hk), fun i k hk => ⟨(h.above i k hk).1, Nat.lt_of_lt_of_le (h.above i k hk).2 hb.size⟩, h.apart⟩
/- A call that changes one of them. -/
theorem Sep.call {w W : World} {l : List Thing} (h : Sep w W l) (i : Nat) (T : Thing) (hi : l[i]? = some T) : ∃ F, T.P W F ∧ ∀ (W' : World) (T' : Thing), Ch F W W' → T'.P W' (grow F W W') → Sep w W' (l.set i T') := by
  obtain ⟨F, h⟩ := h
  refine ⟨F i, h.holds i T hi, fun W' T' hc hT' => ⟨fun j => if j = i then grow (F i) W W' else F j, ?_, ?_, ?_, ?_⟩⟩
  · exact h.below.trans (hc.below (fun k hk => (h.above i k hk).1) h.below.size)
  · intro j U hU
    by_cases hj : j = i
    · subst hj
      rw [List.getElem?_set_self (List.getElem?_eq_some_iff.1 hi).1] at hU
      cases hU
      simpa using hT'
    · rw [List.getElem?_set_ne (Ne.symm hj)] at hU
      simp only [if_neg hj]
      exact U.stay (h.holds j U hU) hc.size fun k hk hF => hc.block k hk fun hFi => h.apart j i k hj hF hFi
  · intro j k hk
    by_cases hj : j = i
    · simp only [if_pos hj] at hk
      rcases hk with hk | hk
      · exact ⟨(h.above i k hk).1, Nat.lt_of_lt_of_le (h.above i k hk).2 hc.size⟩
      · exact ⟨Nat.le_trans h.below.size hk.1, hk.2⟩
    · simp only [if_neg hj] at hk
      exact ⟨(h.above j k hk).1, Nat.lt_of_lt_of_le (h.above j k hk).2 hc.size⟩
  · intro a b k hab ha hb
    by_cases h1 : a = i
    · have h2 : b ≠ i := fun e => hab (h1.trans e.symm)
      simp only [if_pos h1] at ha
      simp only [if_neg h2] at hb
      rcases ha with ha | ha
      · exact h.apart i b k (Ne.symm h2) ha hb
      · have := (h.above b k hb).2
        omega
    · simp only [if_neg h1] at ha
      by_cases h2 : b = i
      · simp only [if_pos h2] at hb
        rcases hb with hb | hb
        · exact h.apart a i k h1 ha hb
        · have := (h.above a k ha).2
          omega
      · simp only [if_neg h2] at hb
        exact h.apart a b k hab ha hb
/- A new thing in new memory. -/
theorem Sep.add {w W W' : World} {l : List Thing} (h : Sep w W l) (hb : Below W.heap.size W W') (T : Thing) (hT : T.P W' (grow (fun _ => False) W W')) : Sep w W' (l ++ [T]) := by
  obtain ⟨F, h⟩ := h
  refine ⟨fun j => if j < l.length then F j else if j = l.length then grow (fun _ => False) W W' else fun _ => False, h.below.trans (hb.mono h.below.size), ?_, ?_, ?_⟩
  · intro j U hU
    by_cases hj : j < l.length
    · rw [List.getElem?_append_left hj] at hU
      simp only [if_pos hj]
      exact U.stay (h.holds j U hU) hb.size (fun k hk _ => hb.block k hk)
    · rw [List.getElem?_append_right (by omega)] at hU
      have hlt := (List.getElem?_eq_some_iff.1 hU).1
      have hj2 : j = l.length := by simp at hlt; omega
      subst hj2
      simp at hU
      subst hU
      simp
      exact hT
  · intro j k hk
    by_cases hj : j < l.length
    · simp only [if_pos hj] at hk
      exact ⟨(h.above j k hk).1, Nat.lt_of_lt_of_le (h.above j k hk).2 hb.size⟩
    · simp only [if_neg hj] at hk
      by_cases hj2 : j = l.length
      · simp only [if_pos hj2] at hk
        rcases hk with hk | hk
        · exact hk.elim
        · exact ⟨Nat.le_trans h.below.size hk.1, hk.2⟩
      · simp only [if_neg hj2] at hk
  · intro a b k hab ha hb'
    have key : ∀ j, (if j < l.length then F j else if j = l.length then grow (fun _ => False) W W' else fun _ => False) k → (j < l.length ∧ F j k ∧ k < W.heap.size) ∨ (j = l.length ∧ W.heap.size ≤ k) := by
      intro j hk
      by_cases hj : j < l.length
      · simp only [if_pos hj] at hk
        exact .inl ⟨hj, hk, (h.above j k hk).2⟩
      · simp only [if_neg hj] at hk
        by_cases hj2 : j = l.length
        · simp only [if_pos hj2] at hk
          rcases hk with hk | hk
          · exact hk.elim
          · exact .inr ⟨hj2, hk.1⟩
        · simp only [if_neg hj2] at hk
    rcases key a ha with ⟨_, h1, h2⟩ | ⟨h1, h2⟩
    · rcases key b hb' with ⟨_, h3, h4⟩ | ⟨h3, h4⟩
      · exact h.apart a b k hab h1 h3
      · omega
    · rcases key b hb' with ⟨_, h3, h4⟩ | ⟨h3, h4⟩
      · omega
      · omega
/- One of them is let go. -/
theorem Sep.drop {w W : World} {l : List Thing} {T : Thing} (h : Sep w W (l ++ [T])) : Sep w W l := by
  obtain ⟨F, h⟩ := h
  refine ⟨F, h.below, fun i U hU => h.holds i U ?_, h.above, h.apart⟩
  rw [List.getElem?_append_left (List.getElem?_eq_some_iff.1 hU).1]
  exact hU
theorem Sep.take {w W : World} {l : List Thing} (n : Nat) (h : Sep w W l) : Sep w W (l.take n) := by
  obtain ⟨F, h⟩ := h
  refine ⟨F, h.below, fun i U hU => h.holds i U ?_, h.above, h.apart⟩
  rw [List.getElem?_take] at hU
  split at hU
  · exact hU
  · cases hU

/- Some of them, in another order. -/
theorem Sep.pick {w W : World} {l : List Thing} (h : Sep w W l) (is : List Nat) (hn : is.Nodup) (l' : List Thing) (hl : l'.map some = is.map (l[·]?)) : Sep w W l' := by
  obtain ⟨F, h⟩ := h
  have key : ∀ (j : Nat) T, l'[j]? = some T → ∃ i, is[j]? = some i ∧ l[i]? = some T := by
    intro j T hT
    have h1 : (l'.map some)[j]? = some (some T) := by rw [List.getElem?_map, hT]; rfl
    rw [hl, List.getElem?_map] at h1
    cases h2 : is[j]? with
    | none => rw [h2] at h1; cases h1
    | some i => rw [h2] at h1; exact ⟨i, rfl, by simpa using h1⟩
  refine ⟨fun j k => ∃ i, is[j]? = some i ∧ F i k, h.below, ?_, ?_, ?_⟩
  · intro j T hT
    obtain ⟨i, h1, h2⟩ := key j T hT
    exact T.more (h.holds i T h2) fun k _ hk => ⟨i, h1, hk⟩
  · rintro j k ⟨i, _, hk⟩
    exact h.above i k hk
  · rintro a b k hab ⟨i, h1, h2⟩ ⟨j, h3, h4⟩
    refine h.apart i j k ?_ h2 h4
    rintro rfl
    obtain ⟨h5, h6⟩ := List.getElem?_eq_some_iff.1 h1
    obtain ⟨h7, h8⟩ := List.getElem?_eq_some_iff.1 h3
    exact hab (nodup_inj hn h5 h7 (h6.trans h8.symm))

def boxT (g : Nat) (cs : List Value) (t : TypeId) : Thing where
  P w F := Blk w g cs t ∧ F g
  stay := fun h _ hb => ⟨h.1.same (hb _ h.1.lt h.2), h.2⟩
  more := fun h hF => ⟨h.1, hF _ h.1.lt h.2⟩
def memT (b : Nat) (s : MS) : Thing where
  P w F := MemAt w b s F
  stay := fun h _ hb => by
    obtain ⟨v, gs, h1, h2, h3, h4⟩ := h
    exact ⟨v, gs, h1.same (hb _ h1.blk.lt h2) (fun g hg => hb _ (row_lt h1.row hg) (h3 g hg)) (fun g hg => hb _ (h1.lt g hg) (h4 g hg)), h2, h3, h4⟩
  more := fun h hF => h.mono hF

theorem Sep.box {w W : World} {l : List Thing} (h : Sep w W l) (cs : List Value) (t : TypeId) : Sep w (W.alloc (.cells cs.toArray t)) (l ++ [boxT W.heap.size cs t]) :=
  h.add ((Below.refl _ _).alloc (Nat.le_refl _) _) _ ⟨Blk.new W cs t, .inr ⟨Nat.le_refl _, by simp⟩⟩
theorem Sep.blk {w W : World} {l : List Thing} (h : Sep w W l) (i : Nat) {g : Nat} {cs : List Value} {t : TypeId} (hi : l[i]? = some (boxT g cs t)) : Blk W g cs t := by
  obtain ⟨F, h⟩ := h
  exact (h.holds i _ hi).1
theorem Sep.mem {w W : World} {l : List Thing} (h : Sep w W l) (i : Nat) {b : Nat} {s : MS} (hi : l[i]? = some (memT b s)) : ∃ O, MemAt W b s O := by
  obtain ⟨F, h⟩ := h
  exact ⟨_, h.holds i _ hi⟩
theorem Sep.ne {w W : World} {l : List Thing} (h : Sep w W l) (i j : Nat) (hij : i ≠ j) {g g' : Nat} {cs cs' : List Value} {t t' : TypeId} (hi : l[i]? = some (boxT g cs t)) (hj : l[j]? = some (boxT g' cs' t')) : g ≠ g' := by
  obtain ⟨F, h⟩ := h
  have h1 := (h.holds i _ hi).2
  have h2 := (h.holds j _ hj).2
  rintro rfl
  exact h.apart i j g hij h1 h2
/- A box is written. -/
theorem Sep.put {w W : World} {l : List Thing} (h : Sep w W l) (i : Nat) {g : Nat} {cs : List Value} {t : TypeId} (hi : l[i]? = some (boxT g cs t)) (j : Nat) (u : Value) : Sep w (W.setCell ⟨g, j, none⟩ u) (l.set i (boxT g (cs.set j u) t)) := by
  obtain ⟨F, hF, hn⟩ := h.call i _ hi
  exact hn _ _ ((Ch.refl _ _).set _ (.inl hF.2) _) ⟨hF.1.put j u, .inl hF.2⟩

end Go.Proofs.Ytnjndggdnmboeaa
