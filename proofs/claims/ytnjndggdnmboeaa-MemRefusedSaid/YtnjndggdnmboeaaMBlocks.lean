/- The contract of mem.Memory's Blocks. -/
import Derived.Test.YtnjndggdnmboeaaMTold
import Derived.Test.YtnjndggdnmboeaaMCalls
namespace Go.Proofs.Ytnjndggdnmboeaa
open Go.RowKit

/- The blocks as they are told: a row of blocks, each with three rows of its own, all of them in blocks from B on. -/
structure G3 where
  c : Nat
  r : Nat
  w : Nat
def tCells (b : MB) (q : G3) : List Value := oCells b.live q.c q.r q.w b.cells.length
def tRow : MS → List G3 → List Value
  | b :: s, q :: qs => tCells b q ++ tRow s qs
  | _, _ => []
structure ToldAt (w : World) (B : Nat) (b : MB) (q : G3) : Prop where
  c : Blk w q.c (gRow fV b.cells) 34
  r : Blk w q.r (gRow fR b.cells) 3
  w : Blk w q.w (gRow fW b.cells) 4
  bc : B ≤ q.c
  br : B ≤ q.r
  bw : B ≤ q.w
structure BlocksIs (w : World) (B g : Nat) (s : MS) (qs : List G3) : Prop where
  row : Blk w g (tRow s qs) 55
  len : qs.length = s.length
  told : ∀ (i : Nat) (b : MB) (q : G3), s[i]? = some b → qs[i]? = some q → ToldAt w B b q
  ge : B ≤ g
theorem ToldAt.same {w w' : World} {B : Nat} {b : MB} {q : G3} (h : ToldAt w B b q) (hb : ∀ k, B ≤ k → k < w.heap.size → w'.heap[k]? = w.heap[k]?) : ToldAt w' B b q :=
  ⟨h.c.same (hb _ h.bc h.c.lt), h.r.same (hb _ h.br h.r.lt), h.w.same (hb _ h.bw h.w.lt), h.bc, h.br, h.bw⟩
theorem ToldAt.below {w w' : World} {B : Nat} {b : MB} {q : G3} (h : ToldAt w B b q) (hb : Below w.heap.size w w') : ToldAt w' B b q := h.same fun k _ hk => hb.block k hk
theorem BlocksIs.below {w w' : World} {B g : Nat} {s : MS} {qs : List G3} (h : BlocksIs w B g s qs) (hb : Below w.heap.size w w') : BlocksIs w' B g s qs :=
  ⟨h.row.below hb h.row.lt, h.len, fun i b q h1 h2 => (h.told i b q h1 h2).below hb, h.ge⟩
theorem BlocksIs.same {w w' : World} {B g : Nat} {s : MS} {qs : List G3} (h : BlocksIs w B g s qs) (hb : ∀ k, B ≤ k → k < w.heap.size → w'.heap[k]? = w.heap[k]?) : BlocksIs w' B g s qs :=
  ⟨h.row.same (hb _ h.ge h.row.lt), h.len, fun i b q h1 h2 => (h.told i b q h1 h2).same hb, h.ge⟩

theorem tRow_len {s : MS} {qs : List G3} (h : qs.length = s.length) : (tRow s qs).length = s.length * 4 := by
  induction s generalizing qs with
  | nil => cases qs <;> rfl
  | cons b s ih =>
    cases qs with
    | nil => simp at h
    | cons q qs => simp only [tRow, List.length_append, ih (qs := qs) (by simpa using h), List.length_cons]; show 4 + _ = _; omega
theorem tRow_get {s : MS} {qs : List G3} {k : Nat} {b : MB} {q : G3} (hs : s[k]? = some b) (hq : qs[k]? = some q) (i : Nat) (hi : i < 4) : (tRow s qs)[k * 4 + i]? = (tCells b q)[i]? := by
  induction s generalizing qs k with
  | nil => simp at hs
  | cons a s ih =>
    cases qs with
    | nil => simp at hq
    | cons f qs =>
      cases k with
      | zero =>
        simp only [List.getElem?_cons_zero, Option.some.injEq] at hs hq
        subst hs
        subst hq
        simp only [tRow, Nat.zero_mul, Nat.zero_add]
        rw [List.getElem?_append_left (by show i < 4; exact hi)]
      | succ k =>
        simp only [tRow]
        rw [List.getElem?_append_right (by show 4 ≤ _; omega)]
        rw [show (k + 1) * 4 + i - (tCells a f).length = k * 4 + i by show _ - 4 = _; omega]
        exact ih (by simpa using hs) (by simpa using hq)
theorem tRow_append {s : MS} {qs : List G3} (hl : qs.length = s.length) (b : MB) (q : G3) : tRow (s ++ [b]) (qs ++ [q]) = tRow s qs ++ tCells b q := by
  induction s generalizing qs with
  | nil =>
    cases qs with
    | nil => simp [tRow]
    | cons g gs => simp at hl
  | cons a s ih =>
    cases qs with
    | nil => simp at hl
    | cons f qs => simp only [List.cons_append, tRow, ih (qs := qs) (by simpa using hl), List.append_assoc]
def zRow (n : Nat) : List Value := (List.replicate n zCells).flatten
theorem zRow_succ (n : Nat) : zRow (n + 1) = zCells ++ zRow n := by simp [zRow, List.replicate_succ]
theorem set4 (l r : List Value) (k : Nat) (hl : l.length = k * 4) (a b c d : Value) : ((((l ++ (zCells ++ r)).set (k * 4) a).set (k * 4 + 1) b).set (k * 4 + 2) c).set (k * 4 + 3) d = l ++ ([a, b, c, d] ++ r) := by
  rw [List.set_append_right _ _ (by omega), List.set_append_right _ _ (by omega), List.set_append_right _ _ (by omega), List.set_append_right _ _ (by omega)]
  rw [show k * 4 - l.length = 0 by omega, show k * 4 + 1 - l.length = 1 by omega, show k * 4 + 2 - l.length = 2 by omega, show k * 4 + 3 - l.length = 3 by omega]
  rfl
theorem z_at (l r : List Value) (k : Nat) (hl : l.length = k * 4) (i : Nat) (hi : i < 4) : (l ++ (zCells ++ r))[k * 4 + i]? = zCells[i]? := by
  rw [List.getElem?_append_right (by omega), show k * 4 + i - l.length = i by omega, List.getElem?_append_left (by exact hi)]

theorem Try.infoTold : (Try.prog.info? 55).map (fun i => (i.zero, i.size, i.bytes)) = some (some (.agg #[.bool false, .slice none 0 0, .slice none 0 0, .slice none 0 0]), 4, 80) := by kernel_rfl
theorem run_make_told (n : Nat) (hn : n ≤ 65536) (w : World) :
    (Instr.makeSlice 39 (.int .i64 (n : Int)) (.int .i64 (n : Int))).run Try.prog w = .ok (.slice (some ⟨w.heap.size, 0, none⟩) n n) (w.alloc (.cells (zRow n).toArray 55)) := by
  obtain ⟨i, h1, h2, h3, h4⟩ := info_parts Try.infoTold
  have hr := run_make (P := Try.prog) w 39 55 i _ Try.underlying39 h1 h2 .i64 .i64 n n (by omega) (Int.le_refl _) (by rw [h4]; omega) (by omega)
  simp only [Int.toNat_natCast, h3] at hr
  rw [hr]
  have e2 : madeCells (Value.agg #[.bool false, .slice none 0 0, .slice none 0 0, .slice none 0 0]).cells (n * 4) = (zRow n).toArray := by
    rw [← Array.toList_inj]
    exact (made_flat #[.bool false, .slice none 0 0, .slice none 0 0, .slice none 0 0] 4 rfl (by omega) n).trans rfl
  rw [e2]

/- What is known while Blocks runs: k blocks are told. -/
def BlkRel (w : World) (s : MS) (g k : Nat) (W : World) : Prop := ∃ qs, qs.length = k ∧ Blk W g (tRow (s.take k) qs ++ zRow (s.length - k)) 55 ∧ (∀ (i : Nat) (b : MB) (q : G3), s[i]? = some b → qs[i]? = some q → ToldAt W (g + 1) b q) ∧ Below w.heap.size w W
def BlocksPost (w : World) (s : MS) (e : Ending) (w' : World) : Prop := ∃ g qs, e = .returned (.slice (some ⟨g, 0, none⟩) s.length s.length) ∧ BlocksIs w' w.heap.size g s qs ∧ Below w.heap.size w w'

theorem BlkRel.step {w W W1 : World} {s : MS} {g k : Nat} (hg : g = w.heap.size) {qs : List G3} {b : MB} {q : G3} (hk : s[k]? = some b) (hl : qs.length = k) (hb : Blk W1 g (tRow (s.take k) qs ++ zRow (s.length - k)) 55) (hT : ∀ (i : Nat) (b : MB) (q : G3), s[i]? = some b → qs[i]? = some q → ToldAt W (g + 1) b q) (hw : Below w.heap.size w W)
    (hWW : Below W.heap.size W W1) (hq : ToldAt W1 (g + 1) b q) :
    BlkRel w s g (k + 1) ((((W1.setCell ⟨g, k * 4, none⟩ (.bool b.live)).setCell ⟨g, k * 4 + 1, none⟩ (.slice (some ⟨q.c, 0, none⟩) b.cells.length b.cells.length)).setCell ⟨g, k * 4 + 2, none⟩ (.slice (some ⟨q.r, 0, none⟩) b.cells.length b.cells.length)).setCell ⟨g, k * 4 + 3, none⟩ (.slice (some ⟨q.w, 0, none⟩) b.cells.length b.cells.length)) := by
  obtain ⟨hks, e⟩ := List.getElem?_eq_some_iff.1 hk
  have far : ∀ x (i : Nat) (u : Value) (W' : World), x ≠ g → (W'.setCell ⟨g, i, none⟩ u).heap[x]? = W'.heap[x]? := fun x i u W' hx => Below.heap_setCell W' ⟨g, i, none⟩ u x hx
  refine ⟨qs ++ [q], by simp [hl], ?_, ?_, ?_⟩
  · have h4 := (((hb.put (k * 4) (.bool b.live)).put (k * 4 + 1) (.slice (some ⟨q.c, 0, none⟩) b.cells.length b.cells.length)).put (k * 4 + 2) (.slice (some ⟨q.r, 0, none⟩) b.cells.length b.cells.length)).put (k * 4 + 3) (.slice (some ⟨q.w, 0, none⟩) b.cells.length b.cells.length)
    rw [show s.length - k = (s.length - (k + 1)) + 1 by omega, zRow_succ, set4 _ _ k (by rw [tRow_len (by simp [hl]; omega)]; simp; omega)] at h4
    rw [List.take_succ_eq_append_getElem hks, e, tRow_append (by simp [hl]; omega), List.append_assoc]
    exact h4
  · intro i b' q' h1 h2
    have far4 : ∀ x, g + 1 ≤ x → x < W1.heap.size → ((((W1.setCell ⟨g, k * 4, none⟩ (.bool b.live)).setCell ⟨g, k * 4 + 1, none⟩ (.slice (some ⟨q.c, 0, none⟩) b.cells.length b.cells.length)).setCell ⟨g, k * 4 + 2, none⟩ (.slice (some ⟨q.r, 0, none⟩) b.cells.length b.cells.length)).setCell ⟨g, k * 4 + 3, none⟩ (.slice (some ⟨q.w, 0, none⟩) b.cells.length b.cells.length)).heap[x]? = W1.heap[x]? := fun x hx _ => by
      rw [far _ _ _ _ (by omega), far _ _ _ _ (by omega), far _ _ _ _ (by omega), far _ _ _ _ (by omega)]
    by_cases hi : i < qs.length
    · rw [List.getElem?_append_left hi] at h2
      exact ((hT i b' q' h1 h2).below hWW).same far4
    · have hlt := (List.getElem?_eq_some_iff.1 h2).1
      have hi2 : i = k := by simp at hlt; omega
      subst hi2
      rw [List.getElem?_append_right (by omega), hl] at h2
      simp at h2
      subst h2
      rw [hk] at h1
      cases h1
      exact hq.same far4
  · have h1 : Below w.heap.size w W1 := hw.trans (hWW.mono hw.size)
    exact (((h1.setCell (by show w.heap.size ≤ g; omega) _).setCell (by show w.heap.size ≤ g; omega) _).setCell (by show w.heap.size ≤ g; omega) _).setCell (by show w.heap.size ≤ g; omega) _

theorem Sep.above {w W : World} {l : List Thing} (h : Sep w W l) (i : Nat) {g : Nat} {cs : List Value} {t : TypeId} (hi : l[i]? = some (boxT g cs t)) : w.heap.size ≤ g := by
  obtain ⟨F, h⟩ := h
  exact (h.above i g (h.holds i _ hi).2).1
theorem told_new {w w' : World} {b : MB} {gc gr gw B : Nat} (h : Sep w w' [boxT gc (gRow fV b.cells) 34, boxT gr (gRow fR b.cells) 3, boxT gw (gRow fW b.cells) 4]) (hB : B ≤ w.heap.size) : ToldAt w' B b ⟨gc, gr, gw⟩ := by
  have h0 := h.blk 0 rfl
  have h1 := h.blk 1 rfl
  have h2 := h.blk 2 rfl
  have a0 := h.above 0 rfl
  have a1 := h.above 1 rfl
  have a2 := h.above 2 rfl
  exact ⟨h0, h1, h2, by show B ≤ gc; omega, by show B ≤ gr; omega, by show B ≤ gw; omega⟩
theorem blocks_done {w W : World} {s : MS} {qs : List G3} (hl : qs.length = s.length) (hb : Blk W w.heap.size (tRow (s.take s.length) qs ++ zRow (s.length - s.length)) 55) (hT : ∀ (i : Nat) (b : MB) (q : G3), s[i]? = some b → qs[i]? = some q → ToldAt W (w.heap.size + 1) b q) (hw : Below w.heap.size w W) :
    BlocksIs W w.heap.size w.heap.size s qs ∧ Below w.heap.size w W := by
  rw [List.take_length, Nat.sub_self] at hb
  refine ⟨⟨?_, hl, fun i b q h1 h2 => ?_, Nat.le_refl _⟩, hw⟩
  · have : tRow s qs ++ zRow 0 = tRow s qs := by simp [zRow]
    rw [this] at hb
    exact hb
  · have h := hT i b q h1 h2
    exact ⟨h.c, h.r, h.w, by have := h.bc; omega, by have := h.br; omega, by have := h.bw; omega⟩

end Go.Proofs.Ytnjndggdnmboeaa
