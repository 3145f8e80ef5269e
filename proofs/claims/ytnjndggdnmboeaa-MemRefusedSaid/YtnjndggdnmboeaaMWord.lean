/- Memory words for layer 6: a block known whole, what has changed and what hasn't, and a mem.Memory as it lies in memory (MemIs, MemAt). No conditions. -/
import Derived.Test.YtnjndggdnmboeaaRows
import Derived.Test.YtnjndggdnmboeaaMPlain
import Derived.WalkKit
import Derived.WalkSpells
import Derived.Lib.Hide
import Derived.Deep.QuietTactic
import Derived.BigQuiet
import Derived.Handy
import Derived.WalkMore
import Derived.Deep.LoopGhost
import Derived.Laws.AppendOwn
import Derived.Laws.AppendOwnNone
import Derived.Laws.MakeOwn
import Derived.Laws.OwnMore
import Derived.RegionTactic
namespace Go.Proofs.Ytnjndggdnmboeaa
open Go.RowKit

/- A block that is known whole. -/
def Blk (w : World) (g : Nat) (cs : List Value) (t : TypeId) : Prop := w.heap[g]? = some (.cells cs.toArray t (0, 0))
theorem Blk.lt {w : World} {g : Nat} {cs : List Value} {t : TypeId} (h : Blk w g cs t) : g < w.heap.size := (Array.getElem?_eq_some_iff.1 h).1
theorem Blk.new (w : World) (cs : List Value) (t : TypeId) : Blk (w.alloc (.cells cs.toArray t)) w.heap.size cs t := heap_alloc_new w _
theorem Blk.alloc {w : World} {g : Nat} {cs : List Value} {t : TypeId} (h : Blk w g cs t) (o : Obj) : Blk (w.alloc o) g cs t := (Below.heap_alloc w o g h.lt).trans h
theorem Blk.far {w : World} {g : Nat} {cs : List Value} {t : TypeId} (h : Blk w g cs t) {p : Addr} (hp : g ≠ p.block) (u : Value) : Blk (w.setCell p u) g cs t := (Below.heap_setCell w p u g hp).trans h
theorem Blk.put {w : World} {g : Nat} {cs : List Value} {t : TypeId} (h : Blk w g cs t) (i : Nat) (u : Value) : Blk (w.setCell ⟨g, i, none⟩ u) g (cs.set i u) t := by
  unfold Blk at h ⊢
  simp [World.setCell, Array.getElem?_modify, h]
theorem Blk.cell {w : World} {g : Nat} {cs : List Value} {t : TypeId} (h : Blk w g cs t) (i : Nat) : w.cell? ⟨g, i, none⟩ = cs[i]? := by
  rw [cell_of_row w g i _ t (0, 0) h]
  simp
theorem Blk.frozen {w : World} {g : Nat} {cs : List Value} {t : TypeId} (h : Blk w g cs t) (i : Nat) : w.frozen? ⟨g, i, none⟩ = false := by
  unfold Blk at h
  simp [World.frozen?, h]
theorem Blk.same {w w' : World} {g : Nat} {cs : List Value} {t : TypeId} (h : Blk w g cs t) (hb : w'.heap[g]? = w.heap[g]?) : Blk w' g cs t := hb.trans h

theorem below_drewN {B : Nat} {a w : World} (h : Below B a w) (n : Nat) : Below B a (w.drewN n) := ⟨h.os, h.tape, h.output, h.size, h.block⟩
theorem ret_bool {a b : Bool} (h : a = b) : Ending.returned (.bool a) = .returned (.bool b) := by rw [h]
theorem ret_int {k : IntKind} {a b : Int} (h : a = b) : Ending.returned (.int k a) = .returned (.int k b) := by rw [h]
theorem bcell {W w1 : World} (hb : Below W.heap.size W w1) : (∀ b o, b < W.heap.size → w1.cell? ⟨b, o, none⟩ = W.cell? ⟨b, o, none⟩) ∧ (∀ b o, b < W.heap.size → w1.frozen? ⟨b, o, none⟩ = W.frozen? ⟨b, o, none⟩) :=
  ⟨fun b o h => hb.cell (p := ⟨b, o, none⟩) h, fun b o h => hb.frozen (p := ⟨b, o, none⟩) h⟩

/- Nothing that was there has changed but what O says. -/
structure Ch (O : Nat → Prop) (w w' : World) : Prop where
  os : w'.os = w.os
  tape : w'.tape = w.tape
  output : w'.output = w.output
  size : w.heap.size ≤ w'.heap.size
  block : ∀ k, k < w.heap.size → ¬ O k → w'.heap[k]? = w.heap[k]?
/- What O says, and what is new. -/
def grow (O : Nat → Prop) (w w' : World) (k : Nat) : Prop := O k ∨ (w.heap.size ≤ k ∧ k < w'.heap.size)
theorem Ch.refl (O : Nat → Prop) (w : World) : Ch O w w := ⟨rfl, rfl, rfl, Nat.le_refl _, fun _ _ _ => rfl⟩
theorem Ch.of_below {O : Nat → Prop} {w w' : World} (h : Below w.heap.size w w') : Ch O w w' := ⟨h.os, h.tape, h.output, h.size, fun k hk _ => h.block k hk⟩
theorem Ch.mono {O O' : Nat → Prop} {w w' : World} (h : Ch O w w') (hO : ∀ k, k < w.heap.size → O k → O' k) : Ch O' w w' := ⟨h.os, h.tape, h.output, h.size, fun k hk hn => h.block k hk (fun ho => hn (hO k hk ho))⟩
theorem Ch.trans {O O' : Nat → Prop} {a b c : World} (h : Ch O a b) (k : Ch O' b c) (hO : ∀ i, i < a.heap.size → O' i → O i) : Ch O a c :=
  ⟨k.os.trans h.os, k.tape.trans h.tape, k.output.trans h.output, Nat.le_trans h.size k.size, fun i hi hn => (k.block i (Nat.lt_of_lt_of_le hi h.size) (fun ho => hn (hO i hi ho))).trans (h.block i hi hn)⟩
theorem Ch.grown {O : Nat → Prop} {a b c : World} (h : Ch O a b) (k : Ch (grow O a b) b c) : Ch O a c := h.trans k fun i hi ho => by
  rcases ho with ho | ⟨ho, _⟩
  · exact ho
  · omega
theorem Ch.below {O : Nat → Prop} {w w' : World} {B : Nat} (h : Ch O w w') (hB : ∀ k, O k → B ≤ k) (hs : B ≤ w.heap.size) : Below B w w' :=
  ⟨h.os, h.tape, h.output, h.size, fun k hk => h.block k (by omega) (fun ho => by have := hB k ho; omega)⟩
theorem Ch.of_grown {O : Nat → Prop} {w w' : World} {row : Option Nat} (h : w.grownBy w' row) (hr : ∀ k, row = some k → O k) : Ch O w w' :=
  ⟨h.os, h.tape, h.output, h.size, fun k hk hn => h.block k hk (fun e => hn (hr k e.symm))⟩
theorem Ch.alloc {O : Nat → Prop} {a w : World} (h : Ch O a w) (o : Obj) : Ch O a (w.alloc o) :=
  h.trans (O' := O) (Ch.of_below ((Below.refl _ _).alloc (Nat.le_refl _) _)) fun _ _ h => h
theorem Ch.drewN {O : Nat → Prop} {a w : World} (h : Ch O a w) (n : Nat) : Ch O a (w.drewN n) := ⟨h.os, h.tape, h.output, h.size, h.block⟩
theorem Ch.set {O : Nat → Prop} {a w : World} (h : Ch O a w) (p : Addr) (hp : O p.block ∨ a.heap.size ≤ p.block) (u : Value) : Ch O a (w.setCell p u) :=
  ⟨h.os, h.tape, h.output, by simpa [World.setCell] using h.size, fun k hk hn => (Below.heap_setCell w p u k (by rcases hp with hp | hp; exact fun e => hn (e ▸ hp); omega)).trans (h.block k hk hn)⟩
theorem Ch.cell {O : Nat → Prop} {w w' : World} (h : Ch O w w') : (∀ b o, b < w.heap.size → ¬ O b → w'.cell? ⟨b, o, none⟩ = w.cell? ⟨b, o, none⟩) ∧ (∀ b o, b < w.heap.size → ¬ O b → w'.frozen? ⟨b, o, none⟩ = w.frozen? ⟨b, o, none⟩) :=
  ⟨fun b o hs hb => World.cell?_of_block (a := ⟨b, o, none⟩) (h.block b hs hb), fun b o hs hb => World.frozen?_of_block (a := ⟨b, o, none⟩) (h.block b hs hb)⟩
theorem Blk.ch {O : Nat → Prop} {w w' : World} {g : Nat} {cs : List Value} {t : TypeId} (h : Blk w g cs t) (k : Ch O w w') (hg : ¬ O g) : Blk w' g cs t := h.same (k.block g h.lt hg)
theorem Blk.below {w w' : World} {B g : Nat} {cs : List Value} {t : TypeId} (h : Blk w g cs t) (hb : Below B w w') (hg : g < B) : Blk w' g cs t := (hb.block g hg).trans h

/- A row of one's own stays where its block does. -/
theorem row_same {w w' : World} {base : Nat} {e : TypeId} {size : Nat} {v : Value} {n : Nat} {xs : List Value} (h : w.ownsRow base e size v n xs) (hb : ∀ g, v.ownBlock = some g → w'.heap[g]? = w.heap[g]?) : w'.ownsRow base e size v n xs := by
  refine ⟨h.1, ?_⟩
  rcases h.2 with h2 | ⟨g, cap, cur, rfl, h3, h4, h5⟩
  · exact .inl h2
  · exact .inr ⟨g, cap, cur, rfl, h3, (hb g rfl).trans h4, h5⟩
theorem row_lt {w : World} {base : Nat} {e : TypeId} {size : Nat} {v : Value} {n : Nat} {xs : List Value} (h : w.ownsRow base e size v n xs) {g : Nat} (hg : v.ownBlock = some g) : g < w.heap.size := by
  rcases h.2 with ⟨rfl, _⟩ | ⟨g', cap, cur, rfl, h3, h4, h5⟩
  · cases hg
  · cases hg
    exact (Array.getElem?_eq_some_iff.1 h4).1
theorem row_form {w : World} {base : Nat} {e : TypeId} {size : Nat} {v : Value} {n : Nat} {xs : List Value} (h : w.ownsRow base e size v n xs) : ∃ A cap, v = .slice A n cap ∧ n ≤ cap ∧ cap ≤ maxLen := by
  rcases h.2 with ⟨rfl, rfl⟩ | ⟨g', cap, cur, rfl, h3, h4, h5, h6, _⟩
  · exact ⟨_, _, rfl, Nat.le_refl _, Nat.zero_le _⟩
  · exact ⟨_, _, rfl, h5, h6⟩
theorem row_pos {w : World} {base : Nat} {e : TypeId} {size : Nat} {v : Value} {n : Nat} {xs : List Value} (h : w.ownsRow base e size v n xs) (hn : 0 < n) : ∃ g cap, v = .slice (some ⟨g, 0, none⟩) n cap ∧ n ≤ cap ∧ cap ≤ maxLen := by
  rcases h.2 with ⟨rfl, rfl⟩ | ⟨g', cap, cur, rfl, h3, h4, h5, h6, _⟩
  · omega
  · exact ⟨_, _, rfl, h5, h6⟩

def vCells (v : MV) : List Value := [.int .i64 v.kind, .int .i64 v.n, .int .i64 v.block]
def vV (v : MV) : Value := .agg #[.int .i64 v.kind, .int .i64 v.n, .int .i64 v.block]
def cCells (c : MC) : List Value := [.int .i64 c.v.kind, .int .i64 c.v.n, .int .i64 c.v.block, .int .i64 c.r, .bool c.w]
def cRow : List MC → List Value
  | [] => []
  | c :: l => cCells c ++ cRow l
theorem cRow_len (l : List MC) : (cRow l).length = l.length * 5 := by
  induction l with
  | nil => rfl
  | cons c l ih => simp only [cRow, List.length_append, ih, List.length_cons]; show 5 + _ = _; omega
theorem cRow_get {l : List MC} {j : Nat} {c : MC} (h : l[j]? = some c) (i : Nat) (hi : i < 5) : (cRow l)[j * 5 + i]? = (cCells c)[i]? := by
  induction l generalizing j with
  | nil => simp at h
  | cons d l ih =>
    cases j with
    | zero =>
      simp only [List.getElem?_cons_zero, Option.some.injEq] at h
      subst h
      simp only [cRow, Nat.zero_mul, Nat.zero_add]
      rw [List.getElem?_append_left (by show i < 5; exact hi)]
    | succ j =>
      simp only [cRow]
      rw [List.getElem?_append_right (by show 5 ≤ _; omega)]
      rw [show (j + 1) * 5 + i - (cCells d).length = j * 5 + i by show _ - 5 = _; omega]
      exact ih (by simpa using h)
theorem cRow_set {l : List MC} {j : Nat} {c : MC} (h : l[j]? = some c) (i : Nat) (hi : i < 5) (u : Value) (c' : MC) (hc : (cCells c).set i u = cCells c') : (cRow l).set (j * 5 + i) u = cRow (l.set j c') := by
  induction l generalizing j with
  | nil => simp at h
  | cons d l ih =>
    cases j with
    | zero =>
      simp only [List.getElem?_cons_zero, Option.some.injEq] at h
      subst h
      simp only [cRow, Nat.zero_mul, Nat.zero_add, List.set_cons_zero]
      rw [List.set_append_left _ _ (by show i < 5; exact hi), hc]
    | succ j =>
      simp only [cRow, List.set_cons_succ]
      rw [List.set_append_right _ _ (by show 5 ≤ _; omega)]
      rw [show (j + 1) * 5 + i - (cCells d).length = j * 5 + i by show _ - 5 = _; omega, ih (by simpa using h)]
theorem cRow_rep (n : Nat) : cRow (List.replicate n c0) = (List.replicate n (cCells c0)).flatten := by
  induction n with
  | zero => rfl
  | succ n ih => simp [List.replicate_succ, cRow, ih]

def bCells (b : MB) (g : Nat) : List Value := [.bool b.live, .slice (some ⟨g, 0, none⟩) b.cells.length b.cells.length]
def bRow : MS → List Nat → List Value
  | b :: s, g :: gs => bCells b g ++ bRow s gs
  | _, _ => []
theorem bRow_len {s : MS} {gs : List Nat} (h : gs.length = s.length) : (bRow s gs).length = s.length * 2 := by
  induction s generalizing gs with
  | nil => cases gs <;> rfl
  | cons b s ih =>
    cases gs with
    | nil => simp at h
    | cons g gs => simp only [bRow, List.length_append, ih (gs := gs) (by simpa using h), List.length_cons]; show 2 + _ = _; omega
theorem bRow_get {s : MS} {gs : List Nat} {k : Nat} {b : MB} {g : Nat} (hs : s[k]? = some b) (hg : gs[k]? = some g) (i : Nat) (hi : i < 2) : (bRow s gs)[k * 2 + i]? = (bCells b g)[i]? := by
  induction s generalizing gs k with
  | nil => simp at hs
  | cons a s ih =>
    cases gs with
    | nil => simp at hg
    | cons f gs =>
      cases k with
      | zero =>
        simp only [List.getElem?_cons_zero, Option.some.injEq] at hs hg
        subst hs
        subst hg
        simp only [bRow, Nat.zero_mul, Nat.zero_add]
        rw [List.getElem?_append_left (by show i < 2; exact hi)]
      | succ k =>
        simp only [bRow]
        rw [List.getElem?_append_right (by show 2 ≤ _; omega)]
        rw [show (k + 1) * 2 + i - (bCells a f).length = k * 2 + i by show _ - 2 = _; omega]
        exact ih (by simpa using hs) (by simpa using hg)
theorem bRow_live {s : MS} {gs : List Nat} {k : Nat} {b : MB} (hs : s[k]? = some b) (hl : gs.length = s.length) (x : Bool) : (bRow s gs).set (k * 2) (.bool x) = bRow (s.set k ⟨x, b.cells⟩) gs := by
  induction s generalizing gs k with
  | nil => simp at hs
  | cons a s ih =>
    cases gs with
    | nil => simp at hl
    | cons f gs =>
      cases k with
      | zero =>
        simp only [List.getElem?_cons_zero, Option.some.injEq] at hs
        subst hs
        rfl
      | succ k =>
        simp only [bRow, List.set_cons_succ]
        rw [List.set_append_right _ _ (by show 2 ≤ _; omega)]
        rw [show (k + 1) * 2 - (bCells a f).length = k * 2 by show _ - 2 = _; omega, ih (by simpa using hs) (by simpa using hl)]
theorem bRow_cells {s : MS} {gs : List Nat} {k : Nat} {b : MB} (hs : s[k]? = some b) (cs : List MC) (hc : cs.length = b.cells.length) : bRow (s.set k ⟨b.live, cs⟩) gs = bRow s gs := by
  induction s generalizing gs k with
  | nil => simp
  | cons a s ih =>
    cases gs with
    | nil => cases k <;> rfl
    | cons f gs =>
      cases k with
      | zero =>
        simp only [List.getElem?_cons_zero, Option.some.injEq] at hs
        subst hs
        simp [bRow, bCells, hc]
      | succ k => simp only [List.set_cons_succ, bRow]; rw [ih (by simpa using hs)]
theorem bRow_append {s : MS} {gs : List Nat} (hl : gs.length = s.length) (b : MB) (g : Nat) : bRow (s ++ [b]) (gs ++ [g]) = bRow s gs ++ bCells b g := by
  induction s generalizing gs with
  | nil =>
    cases gs with
    | nil => simp [bRow]
    | cons g gs => simp at hl
  | cons a s ih =>
    cases gs with
    | nil => simp at hl
    | cons f gs => simp only [List.cons_append, bRow, ih (gs := gs) (by simpa using hl), List.append_assoc]

/- A mem.Memory at the block b: its slice of blocks v, the rows of their cells gs. -/
structure MemIs (w : World) (b : Nat) (v : Value) (gs : List Nat) (s : MS) : Prop where
  blk : Blk w b [v, .int .i64 (usedS s)] 59
  row : w.ownsRow 0 75 2 v s.length (bRow s gs)
  len : gs.length = s.length
  cells : ∀ (i : Nat) (a : MB) (g : Nat), s[i]? = some a → gs[i]? = some g → Blk w g (cRow a.cells) 82
  nod : gs.Nodup
  nb : b ∉ gs
  nv : ∀ g, v.ownBlock = some g → g ≠ b ∧ g ∉ gs
  most : usedS s ≤ 4096

theorem MemIs.lt {w : World} {b : Nat} {v : Value} {gs : List Nat} {s : MS} (h : MemIs w b v gs s) : ∀ g ∈ gs, g < w.heap.size := fun g hg => by
  obtain ⟨i, hi, e⟩ := List.getElem_of_mem hg
  have hi2 : i < s.length := by rw [← h.len]; exact hi
  exact (h.cells i s[i] g (List.getElem?_eq_getElem hi2) (by rw [List.getElem?_eq_getElem hi, e])).lt
theorem MemIs.same {w w' : World} {b : Nat} {v : Value} {gs : List Nat} {s : MS} (h : MemIs w b v gs s) (hb : w'.heap[b]? = w.heap[b]?) (hv : ∀ g, v.ownBlock = some g → w'.heap[g]? = w.heap[g]?) (hg : ∀ g ∈ gs, w'.heap[g]? = w.heap[g]?) : MemIs w' b v gs s :=
  ⟨h.blk.same hb, row_same h.row hv, h.len, fun i a g ha hgi => (h.cells i a g ha hgi).same (hg g (List.mem_of_getElem? hgi)), h.nod, h.nb, h.nv, h.most⟩
theorem MemIs.below {w w' : World} {b : Nat} {v : Value} {gs : List Nat} {s : MS} (h : MemIs w b v gs s) (hb : Below w.heap.size w w') : MemIs w' b v gs s :=
  h.same (hb.block _ h.blk.lt) (fun _ hg => hb.block _ (row_lt h.row hg)) (fun g hg => hb.block _ (h.lt g hg))
theorem MemIs.ch {O : Nat → Prop} {w w' : World} {b : Nat} {v : Value} {gs : List Nat} {s : MS} (h : MemIs w b v gs s) (hc : Ch O w w') (hb : ¬ O b) (hv : ∀ g, v.ownBlock = some g → ¬ O g) (hg : ∀ g ∈ gs, ¬ O g) : MemIs w' b v gs s :=
  h.same (hc.block _ h.blk.lt hb) (fun _ hg => hc.block _ (row_lt h.row hg) (hv _ hg)) (fun g hgi => hc.block _ (h.lt g hgi) (hg g hgi))

/- The same, of which is told alone what its blocks are among. -/
def MemAt (w : World) (b : Nat) (s : MS) (O : Nat → Prop) : Prop := ∃ v gs, MemIs w b v gs s ∧ O b ∧ (∀ g, v.ownBlock = some g → O g) ∧ ∀ g ∈ gs, O g
theorem MemAt.ch {O O' : Nat → Prop} {w w' : World} {b : Nat} {s : MS} (h : MemAt w b s O) (hc : Ch O' w w') (hd : ∀ k, O k → O' k → False) : MemAt w' b s O := by
  obtain ⟨v, gs, h1, h2, h3, h4⟩ := h
  exact ⟨v, gs, h1.ch hc (fun h => hd _ h2 h) (fun g hg h => hd _ (h3 g hg) h) (fun g hg h => hd _ (h4 g hg) h), h2, h3, h4⟩
theorem MemAt.below {O : Nat → Prop} {w w' : World} {b : Nat} {s : MS} (h : MemAt w b s O) (hb : Below w.heap.size w w') : MemAt w' b s O := by
  obtain ⟨v, gs, h1, h2, h3, h4⟩ := h
  exact ⟨v, gs, h1.below hb, h2, h3, h4⟩
theorem MemAt.mono {O O' : Nat → Prop} {w : World} {b : Nat} {s : MS} (h : MemAt w b s O) (hO : ∀ k, k < w.heap.size → O k → O' k) : MemAt w b s O' := by
  obtain ⟨v, gs, h1, h2, h3, h4⟩ := h
  exact ⟨v, gs, h1, hO _ h1.blk.lt h2, fun g hg => hO _ (row_lt h1.row hg) (h3 g hg), fun g hg => hO _ (h1.lt g hg) (h4 g hg)⟩

theorem nodup_inj {l : List Nat} (h : l.Nodup) {i k : Nat} (hi : i < l.length) (hk : k < l.length) (e : l[i] = l[k]) : i = k := by
  have hp := List.pairwise_iff_getElem.1 h
  rcases Nat.lt_trichotomy i k with h1 | h1 | h1
  · exact absurd e (hp i k hi hk h1)
  · exact h1
  · exact absurd e.symm (hp k i hk hi h1)
/- One cell of it is another one. -/
theorem MemIs.upd {w w' : World} {b : Nat} {v : Value} {gs : List Nat} {s : MS} (h : MemIs w b v gs s) {p : MV} (hp : whyC s p = 0) {g : Nat} (hg : gs[at1 p]? = some g) {c : MC}
    (hb : Blk w' g (cRow ((bkOf s p).cells.set p.n.toNat c)) 82) (hc : Ch (· = g) w w') : MemIs w' b v gs (upd s p c) := by
  obtain ⟨hB, j, hj, hlt, hcj⟩ := whyC_ok hp
  obtain ⟨_, k, hk, hk1, hks, hbk, _⟩ := whyB_ok hB
  have hgm : g ∈ gs := List.mem_of_getElem? hg
  have e1 : usedS (Go.Proofs.Ytnjndggdnmboeaa.upd s p c) = usedS s := usedS_upd _ _ _
  refine ⟨?_, ?_, ?_, ?_, h.nod, h.nb, h.nv, by rw [e1]; exact h.most⟩
  · rw [e1]
    exact h.blk.ch hc (fun e => h.nb (e ▸ hgm))
  · unfold Go.Proofs.Ytnjndggdnmboeaa.upd
    rw [bRow_cells (b := bkOf s p) (by rw [hk1]; exact hbk) _ (by simp), List.length_set]
    exact row_same h.row fun g' hg' => hc.block _ (row_lt h.row hg') (fun e => (h.nv g' hg').2 (e ▸ hgm))
  · rw [upd_len]; exact h.len
  · intro i a g' ha hg'
    unfold Go.Proofs.Ytnjndggdnmboeaa.upd at ha
    rw [hk1] at ha hg
    by_cases hi : i = k
    · subst hi
      rw [hg] at hg'
      cases hg'
      rw [List.getElem?_set_self hks] at ha
      cases ha
      exact hb
    · rw [List.getElem?_set_ne (Ne.symm hi)] at ha
      refine (h.cells i a g' ha hg').ch hc fun e => hi ?_
      subst e
      obtain ⟨h1, e1⟩ := List.getElem?_eq_some_iff.1 hg
      obtain ⟨h2, e2⟩ := List.getElem?_eq_some_iff.1 hg'
      exact nodup_inj h.nod h2 h1 (e2.trans e1.symm)

end Go.Proofs.Ytnjndggdnmboeaa
