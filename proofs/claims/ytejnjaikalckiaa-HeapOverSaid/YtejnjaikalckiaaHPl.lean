/- Plain account of layer 13, without the program: values, chunks, heaps and what each call answers and leaves. No conditions. -/
import Derived.Test.YtejnjaikalckiaaDFloyd2
import Derived.Test.YtejnjaikalckiaaDEnt2
namespace Go.Proofs.Ytejnjaikalckiaa

structure Sy where
  kind : Int
  v : Int
  k : Int
  b : Int
structure Ck where
  o : Int
  ty : Int
  at' : Int
  live : Bool
  held : Bool
  arr : Bool
  size : Sy
  cells : List Sy
structure Hp where
  chunks : List Ck
  vars : Int
  facts : List F

def sy0 : Sy := ⟨0, 0, 0, 0⟩
def ck0 : Ck := ⟨0, 0, 0, false, false, false, sy0, []⟩
def hp0 : Hp := ⟨[], 1, []⟩

/- Does the fact follow? -/
def fineB (fs : List F) (n : Nat) : Bool := (List.range n).all fun m => (List.range n).all fun x => !(decide (rndS (fwT fs n m) m n x x m ≠ FAR) && decide (rndS (fwT fs n m) m n (x + 1) x x < 0))
theorem fineB_iff (fs : List F) (n : Nat) : fineB fs n = true ↔ Fine fs n := by
  unfold fineB Fine stops
  simp only [List.all_eq_true, List.mem_range, Bool.not_eq_true', Bool.and_eq_false_iff, decide_eq_false_iff_not, ne_eq]
  constructor
  · intro h m x hm hx hs
    rcases h m hm x hx with h1 | h1
    · exact h1 hs.1
    · exact h1 hs.2
  · intro h m hm x hx
    have := h m x hm hx
    by_cases h1 : rndS (fwT fs n m) m n x x m = FAR
    · exact .inl (fun h => h h1)
    · exact .inr (fun h2 => this ⟨h1, h2⟩)
def entC (n : Int) (fs : List F) (g : F) : Bool := decide (entB n g fs = 0) && (!fineB fs n.toNat || decide (fwT fs n.toNat n.toNat g.x.toNat g.y.toNat ≤ g.c))
theorem FitS.front {n : Nat} {fs gs : List F} (h : FitS n (fs ++ gs)) : FitS n fs := ⟨h.n1, h.n2, by have := h.len; simp at this; omega, fun f hf => h.fit f (by simp [hf])⟩
theorem entC_iff (n : Int) (fs : List F) (g : F) : entC n fs g = true ↔ entB n g fs = 0 ∧ Ent fs g := by
  unfold entC
  simp only [Bool.and_eq_true, decide_eq_true_eq, Bool.or_eq_true, Bool.not_eq_true']
  constructor
  · rintro ⟨h, h1⟩
    obtain ⟨m, rfl, hg, _, _, hs⟩ := entB_ok h
    have fit := hs.front
    refine ⟨h, ?_⟩
    simp only [Int.toNat_natCast] at h1
    by_cases hf : Fine fs m
    · rcases h1 with h1 | h1
      · rw [(fineB_iff fs m).2 hf] at h1
        cases h1
      · exact (table_ent fit (fine_inv fit hf) hg).1 h1
    · exact fun v hv => absurd (fine_of_sol fit hv) hf
  · rintro ⟨h, h1⟩
    obtain ⟨m, rfl, hg, _, _, hs⟩ := entB_ok h
    have fit := hs.front
    refine ⟨h, ?_⟩
    simp only [Int.toNat_natCast]
    by_cases hf : Fine fs m
    · exact .inr ((table_ent fit (fine_inv fit hf) hg).2 h1)
    · refine .inl ?_
      rw [Bool.eq_false_iff]
      exact fun h2 => hf ((fineB_iff fs m).1 h2)

def setCk (H : Hp) (b : Int) (c : Ck) : Hp := { H with chunks := H.chunks.set b.toNat c }
def ckAt (H : Hp) (b : Int) : Ck := H.chunks.getD b.toNat ck0

def freshC (H : Hp) : Bool := decide (96 ≤ H.vars) || decide (766 < H.facts.length)
def freshH (H : Hp) : Hp := if freshC H = true then H else ⟨H.chunks, H.vars + 1, H.facts ++ [⟨H.vars, 0, 1099511627776⟩, ⟨0, H.vars, 1099511627776⟩]⟩
def freshY (H : Hp) : Sy := if freshC H = true then sy0 else ⟨1, H.vars, 0, 0⟩
def freshE (H : Hp) : Int := if freshC H = true then 22 else 0
def assumeE (H : Hp) (fs : List F) : Int := if 768 < H.facts.length + fs.length then 22 else 0
def assumeH (H : Hp) (fs : List F) : Hp := if 768 < H.facts.length + fs.length then H else { H with facts := H.facts ++ fs }
def entH (H : Hp) (g : F) : Bool := entC H.vars H.facts g

def addD (s : Sy) (n : Int) : Bool := decide (-1099511627776 ≤ s.k + n) && decide (s.k + n ≤ 1099511627776)
def addE (H : Hp) (s : Sy) (n : Int) : Int := if s.kind = 0 then 41 else if n = 0 then 0 else if s.kind ≠ 1 then 40 else if addD s n = true then 0 else freshE H
def addY (H : Hp) (s : Sy) (n : Int) : Sy := if s.kind = 0 then sy0 else if n = 0 then s else if s.kind ≠ 1 then sy0 else if addD s n = true then ⟨1, s.v, s.k + n, 0⟩ else freshY H
def addH (H : Hp) (s : Sy) (n : Int) : Hp := if s.kind = 0 then H else if n = 0 then H else if s.kind ≠ 1 then H else if addD s n = true then H else freshH H

def putH (H : Hp) (c : Ck) : Hp := { H with chunks := H.chunks ++ [c] }
def putY (H : Hp) : Sy := ⟨2, 0, 0, H.chunks.length⟩

def sideY (cells : List Sy) (v : Int) : Sy := if v < 1 ∨ (cells.length : Int) < v then ⟨1, 0, 0, 0⟩ else if (cells.getD (v - 1).toNat sy0).kind ≠ 1 then ⟨1, 0, 0, 0⟩ else cells.getD (v - 1).toNat sy0
def overF (cells : List Sy) (f : F) : F := ⟨(sideY cells f.x).v, (sideY cells f.y).v, f.c - (sideY cells f.x).k + (sideY cells f.y).k⟩

def wantE (s : Sy) (kind : Int) : Int := if s.kind = kind then 0 else if s.kind = 0 then 41 else 40
def chunkE (H : Hp) (p : Sy) : Int := if wantE p 2 ≠ 0 then wantE p 2 else if p.b < 0 ∨ (H.chunks.length : Int) ≤ p.b then 43 else if (ckAt H p.b).live = true then 0 else 43
def insideB (H : Hp) (c : Ck) (i : Sy) : Bool :=
  if c.arr = true then entH H ⟨0, i.v, i.k⟩ && entH H ⟨i.v, c.size.v, c.size.k - 1 - i.k⟩ else decide (i.v = 0) && (decide (0 ≤ i.k) && decide (i.k < c.cells.length))
def reachE (H : Hp) (p i : Sy) (wr : Bool) : Int :=
  if wantE p 2 ≠ 0 then wantE p 2 else if wantE i 1 ≠ 0 then wantE i 1 else if chunkE H p ≠ 0 then chunkE H p
  else if wr = true ∧ ((ckAt H p.b).o = 3 ∨ (ckAt H p.b).o = 8) then 44
  else if (ckAt H p.b).o = 6 ∧ (ckAt H p.b).held = false then 45
  else if insideB H (ckAt H p.b) i = false then 42
  else if (ckAt H p.b).o = 6 ∧ (ckAt H p.b).arr = false ∧ i.k = (ckAt H p.b).at' then 45 else 0
def cellAt (H : Hp) (p i : Sy) : Sy := (ckAt H p.b).cells.getD i.k.toNat sy0
def loadE (H : Hp) (p i : Sy) : Int := if reachE H p i false ≠ 0 then reachE H p i false else if (ckAt H p.b).arr = true then freshE H else if (cellAt H p i).kind = 0 then 41 else 0
def loadY (H : Hp) (p i : Sy) : Sy := if reachE H p i false ≠ 0 then sy0 else if (ckAt H p.b).arr = true then freshY H else if (cellAt H p i).kind = 0 then sy0 else cellAt H p i
def loadH (H : Hp) (p i : Sy) : Hp := if reachE H p i false ≠ 0 then H else if (ckAt H p.b).arr = true then freshH H else H
def storeE (H : Hp) (p i v : Sy) : Int := if reachE H p i true ≠ 0 then reachE H p i true else if v.kind = 0 then 41 else if (ckAt H p.b).arr = true then (if v.kind = 1 then 0 else 40) else 0
def storeH (H : Hp) (p i v : Sy) : Hp := if reachE H p i true ≠ 0 then H else if v.kind = 0 then H else if (ckAt H p.b).arr = true then H else setCk H p.b { ckAt H p.b with cells := (ckAt H p.b).cells.set i.k.toNat v }

def freeE (H : Hp) (p : Sy) : Int := if chunkE H p ≠ 0 then chunkE H p else if (ckAt H p.b).o = 3 ∨ (ckAt H p.b).o = 8 then 44 else if (ckAt H p.b).o = 2 ∨ (ckAt H p.b).o = 4 ∨ (ckAt H p.b).o = 6 then 43 else 0
def freeH (H : Hp) (p : Sy) : Hp := if freeE H p ≠ 0 then H else setCk H p.b { ckAt H p.b with live := false }

def mayE (H : Hp) (p : Sy) (n : Int) (held : Bool) : Int := if chunkE H p ≠ 0 then chunkE H p else if (ckAt H p.b).o ≠ 6 ∨ (ckAt H p.b).held ≠ held then 45 else if n ≠ (ckAt H p.b).at' then 42 else 0
/- The cells of a lock that is going to be held, from the i-th on. -/
def openL (a : Int) : Nat → List Sy → Hp → Option (List Sy × Hp)
  | _, [], H => some ([], H)
  | i, s :: l, H => if (i : Int) = a then (openL a (i + 1) l H).map fun r => (s :: r.1, r.2) else if freshC H = true then none else (openL a (i + 1) l (freshH H)).map fun r => (freshY H :: r.1, r.2)
def lockT (H : Hp) (p : Sy) (fs : List F) : Option Hp :=
  match openL (ckAt H p.b).at' 0 (ckAt H p.b).cells H with
  | none => none
  | some (cs, H1) => if 768 < H1.facts.length + fs.length then none else some (setCk { H1 with facts := H1.facts ++ fs.map (overF cs) } p.b { ckAt H p.b with cells := cs, held := true })
def lockE (H : Hp) (p : Sy) (n : Int) (fs : List F) : Int := if mayE H p n false ≠ 0 then mayE H p n false else match lockT H p fs with | none => 22 | some _ => 0
def lockH (H : Hp) (p : Sy) (n : Int) (fs : List F) : Hp := if mayE H p n false ≠ 0 then H else match lockT H p fs with | none => H | some H' => H'

def owedB (c : Ck) : Bool := (List.range c.cells.length).any fun i => decide ((i : Int) ≠ c.at') && decide ((c.cells.getD i sy0).kind ≠ 1)
def unlockE (H : Hp) (p : Sy) (n : Int) (fs : List F) : Int :=
  if mayE H p n true ≠ 0 then mayE H p n true else if owedB (ckAt H p.b) = true then 47 else if fs.all (fun f => entH H (overF (ckAt H p.b).cells f)) = true then 0 else 47
def unlockH (H : Hp) (p : Sy) (n : Int) (fs : List F) : Hp :=
  if unlockE H p n fs ≠ 0 then H else setCk H p.b { ckAt H p.b with cells := List.replicate (ckAt H p.b).cells.length sy0, held := false }

end Go.Proofs.Ytejnjaikalckiaa
