/- A row of tokens in memory, read token by token. The plain account of layer 2: trees, and the reader of tokens, line by line of the grammar in the way that package syntax reads it. Nothing of the program is walked here. -/
import Derived.Test.YtnmpfpnldcgbaaaDoorP03
import Derived.Deep.AppendLies
namespace Go.Proofs.YtnmpfpnldcgbaaaDoor
section
open Go.RowKit

theorem cellsOf_get : ∀ (ts : List Tok) (i : Nat) (t : Tok) (q : Nat), ts[i]? = some t → q < 4 → (cellsOf ts)[i * 4 + q]? = (tokCells t)[q]?
  | [], i, t, q, h, _ => by simp at h
  | u :: ts, 0, t, q, h, hq => by
    have e : u = t := by simpa using h
    subst e
    show (tokCells u ++ cellsOf ts)[0 * 4 + q]? = _
    rw [Nat.zero_mul, Nat.zero_add, List.getElem?_append_left (by simpa [tokCells] using hq)]
  | u :: ts, i + 1, t, q, h, hq => by
    show (tokCells u ++ cellsOf ts)[(i + 1) * 4 + q]? = _
    rw [List.getElem?_append_right (by simp [tokCells]; omega)]
    have e : (i + 1) * 4 + q - (tokCells u).length = i * 4 + q := by simp [tokCells]; omega
    rw [e]
    exact cellsOf_get ts i t q (by simpa using h) hq

def RowAt (w : World) (g : Nat) (ts : List Tok) : Prop := ∀ i t, ts[i]? = some t →
  w.cell? ⟨g, i * 4, none⟩ = some (.int .i64 t.kind) ∧ w.cell? ⟨g, i * 4 + 1, none⟩ = some (.string t.text) ∧ w.cell? ⟨g, i * 4 + 2, none⟩ = some (.int .i64 t.num) ∧ w.cell? ⟨g, i * 4 + 3, none⟩ = some (.int .i64 t.place)

theorem RowAt.below {w w' : World} {g B : Nat} {ts : List Tok} (h : RowAt w g ts) (hb : Below B w w') (hg : g < B) : RowAt w' g ts := fun i t ht => by
  obtain ⟨h0, h1, h2, h3⟩ := h i t ht
  exact ⟨(hb.cell (p := ⟨g, i * 4, none⟩) hg).trans h0, (hb.cell (p := ⟨g, i * 4 + 1, none⟩) hg).trans h1, (hb.cell (p := ⟨g, i * 4 + 2, none⟩) hg).trans h2, (hb.cell (p := ⟨g, i * 4 + 3, none⟩) hg).trans h3⟩

theorem row_of_own {w : World} {base : Nat} {v : Value} {ts : List Tok} (h : w.ownsRow base 109 4 v ts.length (cellsOf ts)) (hn : 0 < ts.length) :
    ∃ g cap, v = .slice (some ⟨g, 0, none⟩) ts.length cap ∧ base ≤ g ∧ g < w.heap.size ∧ ts.length ≤ cap ∧ RowAt w g ts := by
  obtain ⟨g, cap, rfl, hg1, hg2⟩ := h.form hn
  have hcap : ts.length ≤ cap := by
    rcases h.2 with ⟨h0, _⟩ | ⟨g', cap', cur, hv, _, _, hle, _⟩
    · cases h0
    · cases hv; exact hle
  refine ⟨g, cap, rfl, hg1, hg2, hcap, fun i t ht => ?_⟩
  have hi : i < ts.length := (List.getElem?_eq_some_iff.1 ht).1
  have c : ∀ q, q < 4 → w.cell? ⟨g, i * 4 + q, none⟩ = (tokCells t)[q]? := fun q hq => by
    rw [h.cellAt (i * 4 + q) (by omega), cellsOf_get ts i t q ht hq]
  exact ⟨c 0 (by omega), c 1 (by omega), c 2 (by omega), c 3 (by omega)⟩
end

section
open Go.RowKit

inductive T where
  | mk (kind : Int) (text : ByteArray) (num : Int) (place : Nat) (kids : List T)

def T.kids : T → List T | .mk _ _ _ _ ks => ks
def T.text : T → ByteArray | .mk _ s _ _ _ => s
def T.place : T → Nat | .mk _ _ _ p _ => p
def T.kind : T → Int | .mk k _ _ _ _ => k
def T.num : T → Int | .mk _ _ n _ _ => n

/- What a reader of tokens comes to: what was read and the tokens behind it, or the place and the number of the first fault. -/
abbrev R (α : Type) := Except (Nat × Int) (α × List Tok)

def bd {α β : Type} (r : R α) (f : α → List Tok → R β) : R β :=
  match r with
  | .error e => .error e
  | .ok (a, l) => f a l

theorem bd_ok {α β : Type} {r : R α} {a : α} {l : List Tok} (h : r = .ok (a, l)) (f : α → List Tok → R β) : bd r f = f a l := by rw [h]; rfl
theorem bd_err {α β : Type} {r : R α} {e : Nat × Int} (h : r = .error e) (f : α → List Tok → R β) : bd r f = .error e := by rw [h]; rfl

def hdT (l : List Tok) : Tok := l.headD zeroTok

/- The bytes of the key words and signs. -/
def bs (l : List UInt8) : ByteArray := ⟨l.toArray⟩

def isT (t : Tok) (s : ByteArray) : Bool := t.text.toList == s.toList

def expectP (ss : List ByteArray) (l : List Tok) : R Tok := bif ss.any (isT (hdT l)) then .ok (hdT l, l.tail) else .error ((hdT l).place, 20)
def kindP (k : Nat) (l : List Tok) : R Tok := bif (hdT l).kind == k then .ok (hdT l, l.tail) else .error ((hdT l).place, 20)
def nameP (l : List Tok) : R ByteArray := bd (kindP 1 l) fun t l => .ok (t.text, l)
def numberP (l : List Tok) : R Int := bd (kindP 3 l) fun t l => .ok ((t.num : Int), l)

def e0 : ByteArray := ⟨#[]⟩

/- One item or more with commas between; the number bounds the items that may follow. -/
def listF (item : List Tok → R T) : Nat → List Tok → R (List T)
  | 0, _ => .error (0, 0)
  | n + 1, l => bif isT (hdT l) (bs [44]) then bd (item l.tail) fun a l => bd (listF item n l) fun xs l => .ok (a :: xs, l) else .ok ([], l)
def listP (item : List Tok → R T) (l : List Tok) : R (List T) := bd (item l) fun a l => bd (listF item l.length l) fun xs l => .ok (a :: xs, l)
def parensP (item : List Tok → R T) (l : List Tok) : R (List T) :=
  bd (expectP [bs [40]] l) fun _ l => bif isT (hdT l) (bs [41]) then .ok ([], l.tail) else bd (listP item l) fun xs l => bd (expectP [bs [41]] l) fun _ l => .ok (xs, l)

def nameTermP (l : List Tok) : R T := bd (nameP l) fun s l1 => .ok (.mk 5 s 0 (hdT l).place [], l1)
def numberTermP (l : List Tok) : R T :=
  bif isT (hdT l) (bs [45]) then bd (numberP l.tail) fun n l1 => .ok (.mk 5 e0 (-n) (hdT l).place [], l1)
  else bd (numberP l) fun n l1 => .ok (.mk 5 e0 n (hdT l).place [], l1)
/- The sign of a sum: its kind and its factor. -/
def sumP (l : List Tok) : Option (Int × Int) := bif isT (hdT l) (bs [43]) then some (21, 1) else bif isT (hdT l) (bs [45]) then some (22, -1) else none
def sumK (r : Option (Int × Int)) (a : R T) (f : Int → Int → R T) : R T :=
  match r with
  | none => a
  | some (k, x) => f k x
theorem sumK_none {r : Option (Int × Int)} (h : r = none) (a : R T) (f : Int → Int → R T) : sumK r a f = a := by rw [h]; rfl
theorem sumK_some {r : Option (Int × Int)} {k x : Int} (h : r = some (k, x)) (a : R T) (f : Int → Int → R T) : sumK r a f = f k x := by rw [h]; rfl
def T.setNum (v : Int) : T → T | .mk k s _ p ks => .mk k s v p ks
def termP (l : List Tok) : R T :=
  bif (hdT l).kind == 1 then bd (nameTermP l) fun n l1 => sumK (sumP l1) (.ok (n, l1)) fun _ f => bd (numberP l1.tail) fun v l2 => .ok (n.setNum (f * v), l2)
  else numberTermP l

def indexP (l : List Tok) : R T := bd (expectP [bs [91]] l) fun _ l => bd (termP l) fun a l => bd (expectP [bs [93]] l) fun _ l => .ok (a, l)
def callP (n : T) (l : List Tok) : R T := bd (parensP termP l) fun xs l => .ok (.mk 28 n.text 0 n.place xs, l)
def refP (p : Nat) (l : List Tok) : R T :=
  bif isT (hdT l) (bs [109, 117, 116]) then bd (nameP l.tail) fun s l => .ok (.mk 27 s 0 p [], l) else bd (nameP l) fun s l => .ok (.mk 26 s 0 p [], l)
def nameExprP (l : List Tok) : R T :=
  bd (nameTermP l) fun n l =>
    bif isT (hdT l) (bs [91]) then bd (indexP l) fun a l => .ok (.mk 25 n.text 0 n.place [a], l)
    else bif isT (hdT l) (bs [40]) then callP n l
    else sumK (sumP l) (.ok (n, l)) fun k f =>
      bif (hdT l.tail).kind == 1 then bd (nameTermP l.tail) fun m l => .ok (.mk k e0 0 n.place [n, m], l)
      else bd (numberP l.tail) fun v l => .ok (n.setNum (f * v), l)
def exprP (l : List Tok) : R T :=
  bif isT (hdT l) (bs [110, 101, 119]) then bd (numberP l.tail) fun v l1 => .ok (.mk 23 e0 v (hdT l).place [], l1)
  else bif isT (hdT l) (bs [97, 114, 114, 97, 121]) then bd (nameP l.tail) fun s l1 => .ok (.mk 24 s 0 (hdT l).place [], l1)
  else bif isT (hdT l) (bs [38]) then refP (hdT l).place l.tail
  else bif (hdT l).kind == 1 then nameExprP l
  else numberTermP l

def compareP (k : Int) (p : Nat) (l : List Tok) : R T :=
  bd (termP l) fun a l => bd (expectP [bs [60], bs [60, 61], bs [61, 61]] l) fun c l => bd (termP l) fun b l => .ok (.mk k c.text 0 p [a, b], l)
def factP (l : List Tok) : R T := compareP 4 (hdT l).place l
def fieldP (l : List Tok) : R T :=
  bd (nameP l) fun s l1 => bif isT (hdT l1) (bs [91]) then bd (nameTermP l1.tail) fun a l2 => bd (expectP [bs [93]] l2) fun _ l3 => .ok (.mk 3 s 0 (hdT l).place [a], l3) else .ok (.mk 3 s 0 (hdT l).place [], l1)

def sortP (l : List Tok) : R T :=
  bd (expectP [bs [111, 119, 110], bs [99, 101, 108, 108], bs [99, 111, 117, 110, 116, 101, 100], bs [108, 111, 99, 107], bs [103, 117, 97, 114, 100]] l) fun t l1 =>
    bif isT t (bs [111, 119, 110]) || isT t (bs [99, 101, 108, 108]) then .ok (.mk 2 t.text 0 t.place [], l1) else bd (nameTermP l1) fun a l2 => .ok (.mk 2 t.text 0 t.place [a], l2)
def valueModeP (l : List Tok) : R T :=
  bd (expectP [bs [105, 110, 116], bs [111, 119, 110]] l) fun t l1 =>
    bif isT t (bs [111, 119, 110]) then bd (nameTermP l1) fun a l2 => .ok (.mk 8 t.text 0 t.place [a], l2) else .ok (.mk 8 t.text 0 t.place [], l1)
def modeP (l : List Tok) : R T :=
  bif isT (hdT l) (bs [38]) then
    bif isT (hdT l.tail) (bs [109, 117, 116]) then bd (nameTermP l.tail.tail) fun a l2 => .ok (.mk 8 (bs [38, 109, 117, 116]) 0 (hdT l).place [a], l2)
    else bd (nameTermP l.tail) fun a l2 => .ok (.mk 8 (bs [38]) 0 (hdT l).place [a], l2)
  else valueModeP l
def paramP (l : List Tok) : R T :=
  bd (nameP l) fun s l1 => bd (expectP [bs [58]] l1) fun _ l2 => bd (modeP l2) fun a l3 => .ok (.mk 7 s 0 (hdT l).place [a], l3)

/- What may stand in a type behind its sort: a list behind its first sign, or nothing. -/
def fieldsP (l : List Tok) : R (List T) :=
  bif isT (hdT l) (bs [123]) then bd (listP fieldP l.tail) fun xs l1 => bd (expectP [bs [125]] l1) fun _ l2 => .ok (xs, l2) else .ok ([], l)
def factsP (l : List Tok) : R (List T) :=
  bif isT (hdT l) (bs [119, 104, 101, 114, 101]) then listP factP l.tail else .ok ([], l)
def typeP (p : Nat) (l : List Tok) : R T :=
  bd (nameP l) fun s l1 => bd (sortP l1) fun a l2 => bd (fieldsP l2) fun ys l3 => bd (factsP l3) fun zs l4 => bd (expectP [bs [59]] l4) fun _ l5 => .ok (.mk 1 s 0 p (a :: (ys ++ zs)), l5)

def lockP (k : Int) (p : Nat) (l : List Tok) : R T :=
  bd (nameP l) fun s l1 => bd (expectP [bs [91]] l1) fun _ l2 => bd (numberP l2) fun v l3 => bd (expectP [bs [93]] l3) fun _ l4 => .ok (.mk k s v p [], l4)
def returnP (p : Nat) (l : List Tok) : R T :=
  bif isT (hdT l) (bs [59]) then .ok (.mk 17 e0 0 p [], l) else bd (termP l) fun a l1 => .ok (.mk 17 e0 0 p [a], l1)
def namedP (l : List Tok) : R T :=
  bd (nameTermP l) fun n l1 =>
    bif isT (hdT l1) (bs [40]) then bd (callP n l1) fun c l2 => .ok (.mk 20 e0 0 n.place [c], l2)
    else bif isT (hdT l1) (bs [91]) then bd (indexP l1) fun i l2 => bd (expectP [bs [61]] l2) fun _ l3 => bd (termP l3) fun b l4 => .ok (.mk 11 n.text 0 n.place [i, b], l4)
    else bd (expectP [bs [61]] l1) fun _ l2 => bd (exprP l2) fun x l3 => .ok (.mk 10 n.text 0 n.place [x], l3)
def simpleP (l : List Tok) : R T :=
  bif (hdT l).kind == 1 then namedP l
  else bif isT (hdT l) (bs [102, 114, 101, 101]) then bd (nameP l.tail) fun s l1 => .ok (.mk 12 s 0 (hdT l).place [], l1)
  else bif isT (hdT l) (bs [108, 111, 99, 107]) then lockP 13 (hdT l).place l.tail
  else bif isT (hdT l) (bs [117, 110, 108, 111, 99, 107]) then lockP 14 (hdT l).place l.tail
  else bif isT (hdT l) (bs [114, 101, 116, 117, 114, 110]) then returnP (hdT l).place l.tail
  else bif isT (hdT l) (bs [97, 98, 111, 114, 116]) then .ok (.mk 18 e0 0 (hdT l).place [], l.tail)
  else bif isT (hdT l) (bs [102, 111, 114, 107]) then bd (nameP l.tail) fun s l1 => bd (parensP termP l1) fun xs l2 => .ok (.mk 19 s 0 (hdT l).place xs, l2)
  else .error ((hdT l).place, 20)

def T.snoc : T → T → T | .mk k s n p ks, b => .mk k s n p (ks ++ [b])
def elseP (blk : List Tok → R T) (p : Nat) (l : List Tok) : R T :=
  bif isT (hdT l) (bs [101, 108, 115, 101]) then blk l.tail else .ok (.mk 9 e0 0 p [], l)
def ifP (blk : List Tok → R T) (p : Nat) (l : List Tok) : R T :=
  bd (compareP 15 p l) fun n l1 => bd (blk l1) fun b l2 => bd (elseP blk p l2) fun c l3 => .ok ((n.snoc b).snoc c, l3)
def whileP (blk : List Tok → R T) (p : Nat) (l : List Tok) : R T :=
  bd (compareP 16 p l) fun n l1 => bd (blk l1) fun b l2 => .ok (n.snoc b, l2)
def stmtP (blk : List Tok → R T) (l : List Tok) : R T :=
  bif isT (hdT l) (bs [105, 102]) then ifP blk (hdT l).place l.tail
  else bif isT (hdT l) (bs [119, 104, 105, 108, 101]) then whileP blk (hdT l).place l.tail
  else bd (simpleP l) fun n l1 => bd (expectP [bs [59]] l1) fun _ l2 => .ok (n, l2)
def stmtsF (item : List Tok → R T) : Nat → List Tok → R (List T)
  | 0, _ => .error (0, 0)
  | n + 1, l => bif isT (hdT l) (bs [125]) then .ok ([], l.tail) else bd (item l) fun a l1 => bd (stmtsF item n l1) fun xs l2 => .ok (a :: xs, l2)
/- A block within which so many blocks may yet be opened, itself among them. -/
def blockP : Nat → List Tok → R T
  | 0, l => bd (expectP [bs [123]] l) fun t _ => .error (t.place, 21)
  | n + 1, l => bd (expectP [bs [123]] l) fun t l1 => bd (stmtsF (stmtP (blockP n)) l1.length l1) fun xs l2 => .ok (.mk 9 e0 0 t.place xs, l2)

def resultP (l : List Tok) : R T :=
  bif isT (hdT l) (bs [45, 62]) then valueModeP l.tail else .ok (.mk 8 e0 0 (hdT l).place [], l)
def fnP (p : Nat) (l : List Tok) : R T :=
  bd (nameP l) fun s l1 => bd (parensP paramP l1) fun xs l2 => bd (resultP l2) fun r l3 => bd (blockP 8 l3) fun b l4 => .ok (.mk 6 s 0 p (xs ++ [r, b]), l4)
def declP (l : List Tok) : R T :=
  bd (expectP [bs [116, 121, 112, 101], bs [102, 110]] l) fun t l1 => bif isT t (bs [116, 121, 112, 101]) then typeP t.place l1 else fnP t.place l1
def unitF : Nat → List Tok → R (List T)
  | 0, _ => .error (0, 0)
  | n + 1, l => bif (hdT l).kind == 0 then .ok ([], l) else bd (declP l) fun a l1 => bd (unitF n l1) fun xs l2 => .ok (a :: xs, l2)
def unitP (l : List Tok) : R T := bd (unitF (l.length + 1) l) fun xs l1 => .ok (.mk 0 e0 0 0 xs, l1)

mutual
def T.size : T → Nat
  | .mk _ _ _ _ ks => 1 + sizes ks
def sizes : List T → Nat
  | [] => 0
  | t :: ts => t.size + sizes ts
end

def zeroT : T := .mk 0 e0 0 0 []

/- What Parse answers: the tree, the place, the error. -/
def parseToks (l : List Tok) : T × Nat × Int :=
  match unitP l with
  | .error (p, e) => (zeroT, p, e)
  | .ok (t, _) => if 4096 < t.size then (zeroT, 0, 22) else (t, 0, 0)
def parseB (s : ByteArray) : T × Nat × Int :=
  match lexAll s with
  | .error (p, e) => (zeroT, p, e)
  | .ok ts => parseToks ts
end

end Go.Proofs.YtnmpfpnldcgbaaaDoor
