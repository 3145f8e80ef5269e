/- Words for things that lie apart in memory (layer 13): what has changed and what hasn't, and a list of things each in blocks of its own. No conditions. -/
import Derived.Test.YtejnjaikalckiaaDMem
namespace Go.Proofs.Ytejnjaikalckiaa
open Go.RowKit

theorem Blk.same {w w' : World} {g : Nat} {cs : List Value} {t : TypeId} (h : Blk w g cs t) (hb : w'.heap[g]? = w.heap[g]?) : Blk w' g cs t := hb.trans h
theorem Blk.stays {w w' : World} {g : Nat} {cs : List Value} {t : TypeId} (h : Blk w g cs t) (hb : Below w.heap.size w w') : Blk w' g cs t := (hb.block g h.lt).trans h
theorem bcell {W w1 : World} (hb : Below W.heap.size W w1) : (∀ b o, b < W.heap.size → w1.cell? ⟨b, o, none⟩ = W.cell? ⟨b, o, none⟩) ∧ (∀ b o, b < W.heap.size → w1.frozen? ⟨b, o, none⟩ = W.frozen? ⟨b, o, none⟩) :=
  ⟨fun b o h => hb.cell (p := ⟨b, o, none⟩) h, fun b o h => hb.frozen (p := ⟨b, o, none⟩) h⟩

/- Nothing that was there has changed but what O says. -/
structure Ch (O : Nat → Prop) (w w' : World) : Prop where
  os : w'.os = w.os
  tape : w'.tape = w.tape
  output : w'.output = w.output
  size : w.heap.size ≤ w'.heap.size
  block : ∀ k, k < w.heap.size → ¬ O k → w'.heap[k]? = w.heap[k]?
/- What O says, and what is new. -/
def grow (O : Nat → Prop) (w w' : World) (k : Nat) : Prop := O k ∨ (w.heap.size ≤ k ∧ k < w'.heap.size)
theorem Ch.refl (O : Nat → Prop) (w : World) : Ch O w w := ⟨rfl, rfl, rfl, Nat.le_refl _, fun _ _ _ => rfl⟩
theorem Ch.of_below {O : Nat → Prop} {w w' : World} (h : Below w.heap.size w w') : Ch O w w' := ⟨h.os, h.tape, h.output, h.size, fun k hk _ => h.block k hk⟩
theorem Ch.mono {O O' : Nat → Prop} {w w' : World} (h : Ch O w w') (hO : ∀ k, k < w.heap.size → O k → O' k) : Ch O' w w' := ⟨h.os, h.tape, h.output, h.size, fun k hk hn => h.block k hk (fun ho => hn (hO k hk ho))⟩
theorem Ch.trans {O O' : Nat → Prop} {a b c : World} (h : Ch O a b) (k : Ch O' b c) (hO : ∀ i, i < a.heap.size → O' i → O i) : Ch O a c :=
  ⟨k.os.trans h.os, k.tape.trans h.tape, k.output.trans h.output, Nat.le_trans h.size k.size, fun i hi hn => (k.block i (Nat.lt_of_lt_of_le hi h.size) (fun ho => hn (hO i hi ho))).trans (h.block i hi hn)⟩
theorem Ch.grown {O : Nat → Prop} {a b c : World} (h : Ch O a b) (k : Ch (grow O a b) b c) : Ch O a c := h.trans k fun i hi ho => by
  rcases ho with ho | ⟨ho, _⟩
  · exact ho
  · omega
theorem Ch.below {O : Nat → Prop} {w w' : World} {B : Nat} (h : Ch O w w') (hB : ∀ k, O k → B ≤ k) (hs : B ≤ w.heap.size) : Below B w w' :=
  ⟨h.os, h.tape, h.output, h.size, fun k hk => h.block k (by omega) (fun ho => by have := hB k ho; omega)⟩
theorem Ch.of_grown {O : Nat → Prop} {w w' : World} {row : Option Nat} (h : w.grownBy w' row) (hr : ∀ k, row = some k → O k) : Ch O w w' :=
  ⟨h.os, h.tape, h.output, h.size, fun k hk hn => h.block k hk (fun e => hn (hr k e.symm))⟩
theorem Ch.alloc {O : Nat → Prop} {a w : World} (h : Ch O a w) (o : Obj) : Ch O a (w.alloc o) :=
  h.trans (O' := O) (Ch.of_below ((Below.refl _ _).alloc (Nat.le_refl _) _)) fun _ _ h => h
theorem Ch.drewN {O : Nat → Prop} {a w : World} (h : Ch O a w) (n : Nat) : Ch O a (w.drewN n) := ⟨h.os, h.tape, h.output, h.size, h.block⟩
theorem Ch.set {O : Nat → Prop} {a w : World} (h : Ch O a w) (p : Addr) (hp : O p.block ∨ a.heap.size ≤ p.block) (u : Value) : Ch O a (w.setCell p u) :=
  ⟨h.os, h.tape, h.output, by simpa [World.setCell] using h.size, fun k hk hn => (Below.heap_setCell w p u k (by rcases hp with hp | hp; exact fun e => hn (e ▸ hp); omega)).trans (h.block k hk hn)⟩
theorem Ch.cell {O : Nat → Prop} {w w' : World} (h : Ch O w w') : (∀ b o, b < w.heap.size → ¬ O b → w'.cell? ⟨b, o, none⟩ = w.cell? ⟨b, o, none⟩) ∧ (∀ b o, b < w.heap.size → ¬ O b → w'.frozen? ⟨b, o, none⟩ = w.frozen? ⟨b, o, none⟩) :=
  ⟨fun b o hs hb => World.cell?_of_block (a := ⟨b, o, none⟩) (h.block b hs hb), fun b o hs hb => World.frozen?_of_block (a := ⟨b, o, none⟩) (h.block b hs hb)⟩
theorem Blk.ch {O : Nat → Prop} {w w' : World} {g : Nat} {cs : List Value} {t : TypeId} (h : Blk w g cs t) (k : Ch O w w') (hg : ¬ O g) : Blk w' g cs t := h.same (k.block g h.lt hg)

/- A row of one's own stays where its block does. -/
theorem row_same {w w' : World} {base : Nat} {e : TypeId} {size : Nat} {v : Value} {n : Nat} {xs : List Value} (h : w.ownsRow base e size v n xs) (hb : ∀ g, v.ownBlock = some g → w'.heap[g]? = w.heap[g]?) : w'.ownsRow base e size v n xs := by
  refine ⟨h.1, ?_⟩
  rcases h.2 with h2 | ⟨g, cap, cur, rfl, h3, h4, h5⟩
  · exact .inl h2
  · exact .inr ⟨g, cap, cur, rfl, h3, (hb g rfl).trans h4, h5⟩
theorem row_lt {w : World} {base : Nat} {e : TypeId} {size : Nat} {v : Value} {n : Nat} {xs : List Value} (h : w.ownsRow base e size v n xs) {g : Nat} (hg : v.ownBlock = some g) : g < w.heap.size := by
  rcases h.2 with ⟨rfl, _⟩ | ⟨g', cap, cur, rfl, h3, h4, h5⟩
  · cases hg
  · cases hg
    exact (Array.getElem?_eq_some_iff.1 h4).1
theorem row_form {w : World} {base : Nat} {e : TypeId} {size : Nat} {v : Value} {n : Nat} {xs : List Value} (h : w.ownsRow base e size v n xs) : ∃ A cap, v = .slice A n cap ∧ n ≤ cap ∧ cap ≤ maxLen := by
  rcases h.2 with ⟨rfl, rfl⟩ | ⟨g', cap, cur, rfl, h3, h4, h5, h6, _⟩
  · exact ⟨_, _, rfl, Nat.le_refl _, Nat.zero_le _⟩
  · exact ⟨_, _, rfl, h5, h6⟩
theorem row_pos {w : World} {base : Nat} {e : TypeId} {size : Nat} {v : Value} {n : Nat} {xs : List Value} (h : w.ownsRow base e size v n xs) (hn : 0 < n) : ∃ g cap, v = .slice (some ⟨g, 0, none⟩) n cap ∧ n ≤ cap ∧ cap ≤ maxLen := by
  rcases h.2 with ⟨rfl, rfl⟩ | ⟨g', cap, cur, rfl, h3, h4, h5, h6, _⟩
  · omega
  · exact ⟨_, _, rfl, h5, h6⟩

theorem nodup_inj {l : List Nat} (h : l.Nodup) {i k : Nat} (hi : i < l.length) (hk : k < l.length) (e : l[i] = l[k]) : i = k := by
  have hp := List.pairwise_iff_getElem.1 h
  rcases Nat.lt_trichotomy i k with h1 | h1 | h1
  · exact absurd e (hp i k hi hk h1)
  · exact h1
  · exact absurd e.symm (hp k i hk hi h1)
/- A thing in memory: what holds of a world and of the blocks it may lie in. -/
structure Thing where
  P : World → (Nat → Prop) → Prop
  stay : ∀ {w w' : World} {F : Nat → Prop}, P w F → w.heap.size ≤ w'.heap.size → (∀ k, k < w.heap.size → F k → w'.heap[k]? = w.heap[k]?) → P w' F
  more : ∀ {w : World} {F F' : Nat → Prop}, P w F → (∀ k, k < w.heap.size → F k → F' k) → P w F'

/- The things of a list lie apart from one another and from all that was there in the world w; nothing of that has changed. -/
structure SepF (w W : World) (l : List Thing) (F : Nat → Nat → Prop) : Prop where
  below : Below w.heap.size w W
  holds : ∀ (i : Nat) (T : Thing), l[i]? = some T → T.P W (F i)
  above : ∀ i k, F i k → w.heap.size ≤ k ∧ k < W.heap.size
  apart : ∀ i j k, i ≠ j → F i k → F j k → False
def Sep (w W : World) (l : List Thing) : Prop := ∃ F, SepF w W l F

theorem Sep.below {w W : World} {l : List Thing} (h : Sep w W l) : Below w.heap.size w W := by
  obtain ⟨F, h⟩ := h
  exact h.below
theorem Sep.start (w : World) : Sep w w [] := ⟨fun _ _ => False, Below.refl _ _, (fun _ _ h => by simp at h), fun _ _ h => h.elim, fun _ _ _ _ h _ => h.elim⟩
theorem Sep.quiet {w W W' : World} {l : List Thing} (h : Sep w W l) (hb : Below W.heap.size W W') : Sep w W' l := by
  obtain ⟨F, h⟩ := h
  exact ⟨F, h.below.trans (hb.mono h.below.size), fun i T hT => T.stay (h.holds i T hT) hb.size (fun k hk _ => hb.block k hk), fun i k hk => ⟨(h.above i k hk).1, Nat.lt_of_lt_of_le (h.above i k hk).2 hb.size⟩, h.apart⟩
/- A call that changes one of them. -/
theorem Sep.call {w W : World} {l : List Thing} (h : Sep w W l) (i : Nat) (T : Thing) (hi : l[i]? = some T) : ∃ F, T.P W F ∧ ∀ (W' : World) (T' : Thing), Ch F W W' → T'.P W' (grow F W W') → Sep w W' (l.set i T') := by
  obtain ⟨F, h⟩ := h
  refine ⟨F i, h.holds i T hi, fun W' T' hc hT' => ⟨fun j => if j = i then grow (F i) W W' else F j, ?_, ?_, ?_, ?_⟩⟩
  · exact h.below.trans (hc.below (fun k hk => (h.above i k hk).1) h.below.size)
  · intro j U hU
    by_cases hj : j = i
    · subst hj
      rw [List.getElem?_set_self (List.getElem?_eq_some_iff.1 hi).1] at hU
      cases hU
      simpa using hT'
    · rw [List.getElem?_set_ne (Ne.symm hj)] at hU
      simp only [if_neg hj]
      exact U.stay (h.holds j U hU) hc.size fun k hk hF => hc.block k hk fun hFi => h.apart j i k hj hF hFi
  · intro j k hk
    by_cases hj : j = i
    · simp only [if_pos hj] at hk
      rcases hk with hk | hk
      · exact ⟨(h.above i k hk).1, Nat.lt_of_lt_of_le (h.above i k hk).2 hc.size⟩
      · exact ⟨Nat.le_trans h.below.size hk.1, hk.2⟩
    · simp only [if_neg hj] at hk
      exact ⟨(h.above j k hk).1, Nat.lt_of_lt_of_le (h.above j k hk).2 hc.size⟩
  · intro a b k hab ha hb
    by_cases h1 : a = i
    · have h2 : b ≠ i := fun e => hab (h1.trans e.symm)
      simp only [if_pos h1] at ha
      simp only [if_neg h2] at hb
      rcases ha with ha | ha
      · exact h.apart i b k (Ne.symm h2) ha hb
      · have := (h.above b k hb).2
        omega
    · simp only [if_neg h1] at ha
      by_cases h2 : b = i
      · simp only [if_pos h2] at hb
        rcases hb with hb | hb
        · exact h.apart a i k h1 ha hb
        · have := (h.above a k ha).2
          omega
      · simp only [if_neg h2] at hb
        exact h.apart a b k hab ha hb
/- A new thing in new memory. -/
theorem Sep.add {w W W' : World} {l : List Thing} (h : Sep w W l) (hb : Below W.heap.size W W') (T : Thing) (hT : T.P W' (grow (fun _ => False) W W')) : Sep w W' (l ++ [T]) := by
  obtain ⟨F, h⟩ := h
  refine ⟨fun j => if j < l.length then F j else if j = l.length then grow (fun _ => False) W W' else fun _ => False, h.below.trans (hb.mono h.below.size), ?_, ?_, ?_⟩
  · intro j U hU
    by_cases hj : j < l.length
    · rw [List.getElem?_append_left hj] at hU
      simp only [if_pos hj]
      exact U.stay (h.holds j U hU) hb.size (fun k hk _ => hb.block k hk)
    · rw [List.getElem?_append_right (by omega)] at hU
      have hlt := (List.getElem?_eq_some_iff.1 hU).1
      have hj2 : j = l.length := by simp at hlt; omega
      subst hj2
      simp at hU
      subst hU
      simp
      exact hT
  · intro j k hk
    by_cases hj : j < l.length
    · simp only [if_pos hj] at hk
      exact ⟨(h.above j k hk).1, Nat.lt_of_lt_of_le (h.above j k hk).2 hb.size⟩
    · simp only [if_neg hj] at hk
      by_cases hj2 : j = l.length
      · simp only [if_pos hj2] at hk
        rcases hk with hk | hk
        · exact hk.elim
        · exact ⟨Nat.le_trans h.below.size hk.1, hk.2⟩
      · simp only [if_neg hj2] at hk
  · intro a b k hab ha hb'
    have key : ∀ j, (if j < l.length then F j else if j = l.length then grow (fun _ => False) W W' else fun _ => False) k → (j < l.length ∧ F j k ∧ k < W.heap.size) ∨ (j = l.length ∧ W.heap.size ≤ k) := by
      intro j hk
      by_cases hj : j < l.length
      · simp only [if_pos hj] at hk
        exact .inl ⟨hj, hk, (h.above j k hk).2⟩
      · simp only [if_neg hj] at hk
        by_cases hj2 : j = l.length
        · simp only [if_pos hj2] at hk
          rcases hk with hk | hk
          · exact hk.elim
          · exact .inr ⟨hj2, hk.1⟩
        · simp only [if_neg hj2] at hk
    rcases key a ha with ⟨_, h1, h2⟩ | ⟨h1, h2⟩
    · rcases key b hb' with ⟨_, h3, h4⟩ | ⟨h3, h4⟩
      · exact h.apart a b k hab h1 h3
      · omega
    · rcases key b hb' with ⟨_, h3, h4⟩ | ⟨h3, h4⟩
      · omega
      · omega
/- One of them is let go. -/
theorem Sep.drop {w W : World} {l : List Thing} {T : Thing} (h : Sep w W (l ++ [T])) : Sep w W l := by
  obtain ⟨F, h⟩ := h
  refine ⟨F, h.below, fun i U hU => h.holds i U ?_, h.above, h.apart⟩
  rw [List.getElem?_append_left (List.getElem?_eq_some_iff.1 hU).1]
  exact hU
theorem Sep.take {w W : World} {l : List Thing} (n : Nat) (h : Sep w W l) : Sep w W (l.take n) := by
  obtain ⟨F, h⟩ := h
  refine ⟨F, h.below, fun i U hU => h.holds i U ?_, h.above, h.apart⟩
  rw [List.getElem?_take] at hU
  split at hU
  · exact hU
  · cases hU

/- Some of them, in another order. -/
theorem Sep.pick {w W : World} {l : List Thing} (h : Sep w W l) (is : List Nat) (hn : is.Nodup) (l' : List Thing) (hl : l'.map some = is.map (l[·]?)) : Sep w W l' := by
  obtain ⟨F, h⟩ := h
  have key : ∀ (j : Nat) T, l'[j]? = some T → ∃ i, is[j]? = some i ∧ l[i]? = some T := by
    intro j T hT
    have h1 : (l'.map some)[j]? = some (some T) := by rw [List.getElem?_map, hT]; rfl
    rw [hl, List.getElem?_map] at h1
    cases h2 : is[j]? with
    | none => rw [h2] at h1; cases h1
    | some i => rw [h2] at h1; exact ⟨i, rfl, by simpa using h1⟩
  refine ⟨fun j k => ∃ i, is[j]? = some i ∧ F i k, h.below, ?_, ?_, ?_⟩
  · intro j T hT
    obtain ⟨i, h1, h2⟩ := key j T hT
    exact T.more (h.holds i T h2) fun k _ hk => ⟨i, h1, hk⟩
  · rintro j k ⟨i, _, hk⟩
    exact h.above i k hk
  · rintro a b k hab ⟨i, h1, h2⟩ ⟨j, h3, h4⟩
    refine h.apart i j k ?_ h2 h4
    rintro rfl
    obtain ⟨h5, h6⟩ := List.getElem?_eq_some_iff.1 h1
    obtain ⟨h7, h8⟩ := List.getElem?_eq_some_iff.1 h3
    exact hab (nodup_inj hn h5 h7 (h6.trans h8.symm))

def boxT (g : Nat) (cs : List Value) (t : TypeId) : Thing where
  P w F := Blk w g cs t ∧ F g
  stay := fun h _ hb => ⟨h.1.same (hb _ h.1.lt h.2), h.2⟩
  more := fun h hF => ⟨h.1, hF _ h.1.lt h.2⟩
theorem Sep.box {w W : World} {l : List Thing} (h : Sep w W l) (cs : List Value) (t : TypeId) : Sep w (W.alloc (.cells cs.toArray t)) (l ++ [boxT W.heap.size cs t]) :=
  h.add ((Below.refl _ _).alloc (Nat.le_refl _) _) _ ⟨Blk.new W cs t, .inr ⟨Nat.le_refl _, by simp⟩⟩
theorem Sep.blk {w W : World} {l : List Thing} (h : Sep w W l) (i : Nat) {g : Nat} {cs : List Value} {t : TypeId} (hi : l[i]? = some (boxT g cs t)) : Blk W g cs t := by
  obtain ⟨F, h⟩ := h
  exact (h.holds i _ hi).1
theorem Sep.ne {w W : World} {l : List Thing} (h : Sep w W l) (i j : Nat) (hij : i ≠ j) {g g' : Nat} {cs cs' : List Value} {t t' : TypeId} (hi : l[i]? = some (boxT g cs t)) (hj : l[j]? = some (boxT g' cs' t')) : g ≠ g' := by
  obtain ⟨F, h⟩ := h
  have h1 := (h.holds i _ hi).2
  have h2 := (h.holds j _ hj).2
  rintro rfl
  exact h.apart i j g hij h1 h2
/- A box is written. -/
theorem Sep.put {w W : World} {l : List Thing} (h : Sep w W l) (i : Nat) {g : Nat} {cs : List Value} {t : TypeId} (hi : l[i]? = some (boxT g cs t)) (j : Nat) (u : Value) : Sep w (W.setCell ⟨g, j, none⟩ u) (l.set i (boxT g (cs.set j u) t)) := by
  obtain ⟨F, hF, hn⟩ := h.call i _ hi
  exact hn _ _ ((Ch.refl _ _).set _ (.inl hF.2) _) ⟨hF.1.put j u, .inl hF.2⟩

/- Several things as one. -/
def allT (l : List Thing) : Thing where
  P w F := ∃ G : Nat → Nat → Prop, (∀ (i : Nat) (T : Thing), l[i]? = some T → T.P w (G i)) ∧ (∀ i k, G i k → F k ∧ k < w.heap.size) ∧ ∀ i j k, i ≠ j → G i k → G j k → False
  stay := fun h hs hb => by
    obtain ⟨G, h1, h2, h3⟩ := h
    exact ⟨G, fun i T hT => T.stay (h1 i T hT) hs fun k hk hG => hb k hk (h2 i k hG).1, fun i k hG => ⟨(h2 i k hG).1, Nat.lt_of_lt_of_le (h2 i k hG).2 hs⟩, h3⟩
  more := fun h hF => by
    obtain ⟨G, h1, h2, h3⟩ := h
    exact ⟨G, h1, fun i k hG => ⟨hF k (h2 i k hG).2 (h2 i k hG).1, (h2 i k hG).2⟩, h3⟩
/- The things behind the n-th as one, and as several again. -/
theorem Sep.pack {w W : World} {l m : List Thing} (h : Sep w W (l ++ m)) : Sep w W (allT m :: l) := by
  obtain ⟨F, h⟩ := h
  refine ⟨fun i k => match i with | 0 => ∃ j, F (l.length + j) k | i + 1 => i < l.length ∧ F i k, h.below, ?_, ?_, ?_⟩
  · intro i T hT
    cases i with
    | zero =>
      simp only [List.getElem?_cons_zero, Option.some.injEq] at hT
      subst hT
      refine ⟨fun j => F (l.length + j), fun j U hU => h.holds (l.length + j) U ?_, fun j k hk => ⟨⟨j, hk⟩, (h.above _ k hk).2⟩, fun i j k hij h1 h2 => h.apart _ _ k (by omega) h1 h2⟩
      rw [List.getElem?_append_right (by omega)]
      simpa using hU
    | succ i =>
      simp only [List.getElem?_cons_succ] at hT
      have hi := (List.getElem?_eq_some_iff.1 hT).1
      exact T.more (h.holds i T (by rw [List.getElem?_append_left hi]; exact hT)) fun k _ hk => ⟨hi, hk⟩
  · intro i k hk
    cases i with
    | zero => obtain ⟨j, hj⟩ := hk; exact h.above _ k hj
    | succ i => exact h.above _ k hk.2
  · intro a b k hab ha hb
    cases a with
    | zero =>
      obtain ⟨j, hj⟩ := ha
      cases b with
      | zero => exact hab rfl
      | succ b => exact h.apart _ _ k (by have := hb.1; omega) hj hb.2
    | succ a =>
      cases b with
      | zero => obtain ⟨j, hj⟩ := hb; exact h.apart _ _ k (by have := ha.1; omega) ha.2 hj
      | succ b => exact h.apart _ _ k (by omega) ha.2 hb.2
theorem Sep.unpack {w W : World} {l m : List Thing} (h : Sep w W (allT m :: l)) : Sep w W (l ++ m) := by
  obtain ⟨F, h⟩ := h
  obtain ⟨G, h1, h2, h3⟩ := h.holds 0 _ rfl
  refine ⟨fun i k => (i < l.length ∧ F (i + 1) k) ∨ (l.length ≤ i ∧ G (i - l.length) k), h.below, ?_, ?_, ?_⟩
  · intro i T hT
    by_cases hi : i < l.length
    · rw [List.getElem?_append_left hi] at hT
      exact T.more (h.holds (i + 1) T (by simpa using hT)) fun k _ hk => .inl ⟨hi, hk⟩
    · rw [List.getElem?_append_right (by omega)] at hT
      exact T.more (h1 _ T hT) fun k _ hk => .inr ⟨by omega, hk⟩
  · rintro i k (⟨_, hk⟩ | ⟨_, hk⟩)
    · exact h.above _ k hk
    · exact h.above 0 k (h2 _ k hk).1
  · rintro a b k hab (⟨a1, ha⟩ | ⟨a1, ha⟩) (⟨b1, hb⟩ | ⟨b1, hb⟩)
    · exact h.apart _ _ k (by omega) ha hb
    · exact h.apart _ _ k (by omega) ha (h2 _ k hb).1
    · exact h.apart _ _ k (by omega) hb (h2 _ k ha).1
    · exact h3 _ _ k (by omega) ha hb

end Go.Proofs.Ytejnjaikalckiaa
