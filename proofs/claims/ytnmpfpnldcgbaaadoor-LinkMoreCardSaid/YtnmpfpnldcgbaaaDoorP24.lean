/- The plain account of layer 7: instructions, and how a function's tree is laid out as a list of them. Nothing of the program is walked here. Instructions in memory: a slice of instructions, each with a slice of terms of its own; that they stay where nothing of theirs is changed, and append on them. Nothing of the program is walked here. -/
import Derived.Test.YtnmpfpnldcgbaaaDoorP04
import Derived.Test.YtnmpfpnldcgbaaaDoorP08
import Derived.Test.YtnmpfpnldcgbaaaDoorP07
namespace Go.Proofs.YtnmpfpnldcgbaaaDoor
section
open Go.RowKit

structure Tm where
  name : ByteArray
  num : Int

structure Ins where
  op : Int
  place : Nat
  x : ByteArray
  y : ByteArray
  a : Tm
  b : Tm
  args : List Tm
  to : Nat
  has : Bool

def tm0 : Tm := ⟨e0, 0⟩
def tmOf (t : T) : Tm := ⟨t.text, t.num⟩
def kidP (t : T) (i : Nat) : T := t.kids.getD i zeroT
def insAt (op : Int) (p : Nat) : Ins := ⟨op, p, e0, e0, tm0, tm0, [], 0, false⟩
def tmsOf (t : T) : List Tm := t.kids.map tmOf

def branchI (t : T) (to : Nat) : Ins := ⟨10, t.place, t.text, e0, tmOf (kidP t 0), tmOf (kidP t 1), [], to, false⟩
def jumpI (t : T) (to : Nat) : Ins := ⟨11, t.place, e0, e0, tm0, tm0, [], to, false⟩
def retI (t : T) : Ins := insAt 14 t.place

/- The instruction of a Set, by the kind of its expression. -/
def setI (t : T) : Ins :=
  bif (kidP t 0).kind == 5 then ⟨0, t.place, t.text, e0, tmOf (kidP t 0), tm0, [], 0, false⟩
  else bif (kidP t 0).kind == 26 || (kidP t 0).kind == 27 then ⟨0, t.place, t.text, e0, ⟨(kidP t 0).text, 0⟩, tm0, [], 0, false⟩
  else bif (kidP t 0).kind == 21 then ⟨1, t.place, t.text, e0, tmOf (kidP (kidP t 0) 0), tmOf (kidP (kidP t 0) 1), [], 0, false⟩
  else bif (kidP t 0).kind == 22 then ⟨2, t.place, t.text, e0, tmOf (kidP (kidP t 0) 0), tmOf (kidP (kidP t 0) 1), [], 0, false⟩
  else bif (kidP t 0).kind == 23 then ⟨3, t.place, t.text, e0, ⟨e0, (kidP t 0).num⟩, tm0, [], 0, false⟩
  else bif (kidP t 0).kind == 24 then ⟨4, t.place, t.text, e0, ⟨(kidP t 0).text, 0⟩, tm0, [], 0, false⟩
  else bif (kidP t 0).kind == 25 then ⟨5, t.place, t.text, (kidP t 0).text, tmOf (kidP (kidP t 0) 0), tm0, [], 0, false⟩
  else bif (kidP t 0).kind == 28 then ⟨12, t.place, t.text, (kidP t 0).text, tm0, tm0, tmsOf (kidP t 0), 0, false⟩
  else ⟨0, t.place, t.text, e0, tm0, tm0, [], 0, false⟩

/- The instruction of a statement without a block or an expression, and whether the node is one. -/
def simpleI (t : T) : Option Ins :=
  bif t.kind == 11 then some ⟨6, t.place, e0, t.text, tmOf (kidP t 0), tmOf (kidP t 1), [], 0, false⟩
  else bif t.kind == 12 then some ⟨7, t.place, e0, t.text, tm0, tm0, [], 0, false⟩
  else bif t.kind == 13 then some ⟨8, t.place, e0, t.text, ⟨e0, t.num⟩, tm0, [], 0, false⟩
  else bif t.kind == 14 then some ⟨9, t.place, e0, t.text, ⟨e0, t.num⟩, tm0, [], 0, false⟩
  else bif t.kind == 20 then some ⟨12, t.place, e0, (kidP t 0).text, tm0, tm0, tmsOf (kidP t 0), 0, false⟩
  else bif t.kind == 19 then some ⟨13, t.place, e0, t.text, tm0, tm0, tmsOf t, 0, false⟩
  else bif t.kind == 17 then some ⟨14, t.place, e0, e0, tmOf (kidP t 0), tm0, [], 0, decide (0 < t.kids.length)⟩
  else bif t.kind == 18 then some (insAt 15 t.place)
  else none

/- The instructions of a statement whose first one has the number c; blk lays out the block within it. -/
def stmtI (blk : Nat → List T → List Ins) (c : Nat) (t : T) : List Ins :=
  bif t.kind == 15 then
    branchI t (c + (blk (c + 1) (kidP t 2).kids).length + 2) :: (blk (c + 1) (kidP t 2).kids ++ jumpI t (c + (blk (c + 1) (kidP t 2).kids).length + (blk (c + (blk (c + 1) (kidP t 2).kids).length + 2) (kidP t 3).kids).length + 2) :: blk (c + (blk (c + 1) (kidP t 2).kids).length + 2) (kidP t 3).kids)
  else bif t.kind == 16 then
    branchI t (c + (blk (c + 1) (kidP t 2).kids).length + 2) :: (blk (c + 1) (kidP t 2).kids ++ [jumpI t c])
  else bif t.kind == 10 then [setI t]
  else (simpleI t).toList
def stmtsI (blk : Nat → List T → List Ins) : Nat → List T → List Ins
  | _, [] => []
  | c, t :: ks => stmtI blk c t ++ stmtsI blk (c + (stmtI blk c t).length) ks
/- The instructions of the statements of a block that begins at that number; the first number bounds how deep blocks lie in one another. -/
def blockI : Nat → Nat → List T → List Ins
  | 0 => fun _ _ => []
  | n + 1 => stmtsI (blockI n)

theorem stmtsI_append (blk : Nat → List T → List Ins) : ∀ (c : Nat) (us vs : List T), stmtsI blk c (us ++ vs) = stmtsI blk c us ++ stmtsI blk (c + (stmtsI blk c us).length) vs
  | c, [], vs => by simp [stmtsI]
  | c, u :: us, vs => by
    rw [List.cons_append, stmtsI, stmtsI, stmtsI_append blk _ us vs, List.append_assoc, List.length_append, Nat.add_assoc]

structure Cod where
  name : ByteArray
  params : List ByteArray
  list : List Ins

def cod0 : Cod := ⟨e0, [], []⟩
/- The last kid, or nothing. -/
def lastP (t : T) : T := bif t.kids.isEmpty then zeroT else kidP t (t.kids.length - 1)
def paramsI (ks : List T) : List ByteArray := (ks.filter fun k => k.kind == 7).map T.text
def lowerI (t : T) : Cod :=
  bif t.kind == 6 then ⟨t.text, paramsI t.kids, blockI 5000 0 (lastP t).kids ++ [retI (lastP t)]⟩ else cod0
end

section
open Go.RowKit

theorem Below.row {B : Nat} {a w : World} (h : Below B a w) {g : Nat} (hg : B ≤ g) (cs : Array Value) : Below B a (w.setRow g cs) :=
  ⟨h.os, h.tape, h.output, by simpa [World.setRow] using h.size, fun k hk => (setRow_other w g k cs (by omega)).trans (h.block k hk)⟩
theorem Blk.stays {w w' : World} {g : Nat} {cs : List Value} {t : TypeId} (h : Blk w g cs t) (hb : Below w.heap.size w w') : Blk w' g cs t := (hb.block g h.lt).trans h

def tmCells (t : Tm) : List Value := [.string t.name, .int .i64 t.num]
def tmsCells : List Tm → List Value
  | [] => []
  | t :: ts => tmCells t ++ tmsCells ts
def insCells (i : Ins) (v : Value) : List Value :=
  [.int .i64 i.op, .int .i64 i.place, .string i.x, .string i.y, .string i.a.name, .int .i64 i.a.num, .string i.b.name, .int .i64 i.b.num, v, .int .i64 i.to, .bool i.has]
def InsV (i : Ins) (v : Value) : Value :=
  .agg #[.int .i64 i.op, .int .i64 i.place, .string i.x, .string i.y, .string i.a.name, .int .i64 i.a.num, .string i.b.name, .int .i64 i.b.num, v, .int .i64 i.to, .bool i.has]
def insRow : List Ins → List Value → List Value
  | i :: is, v :: vs => insCells i v ++ insRow is vs
  | _, _ => []

/- A slice of terms, in a block that S allows. -/
def ArgsAt (w : World) (ts : List Tm) (S : Nat → Prop) (v : Value) : Prop :=
  w.ownsRow 0 40 2 v ts.length (tmsCells ts) ∧ ∀ g, v.ownBlock = some g → S g
def AllArgs (w : World) : List Ins → (Nat → Prop) → List Value → Prop
  | [], _, vs => vs = []
  | i :: is, S, vs => ∃ v vs', vs = v :: vs' ∧ ArgsAt w i.args S v ∧ AllArgs w is S vs'
/- A slice of instructions. -/
def InsAt (w : World) (is : List Ins) (S : Nat → Prop) (v : Value) : Prop :=
  ∃ vs, w.ownsRow 0 43 11 v is.length (insRow is vs) ∧ (∀ g, v.ownBlock = some g → S g) ∧ AllArgs w is (fun b => S b ∧ v.ownBlock ≠ some b) vs

theorem tmsCells_length : ∀ ts : List Tm, (tmsCells ts).length = ts.length * 2
  | [] => rfl
  | t :: ts => by simp only [tmsCells, List.length_append, tmsCells_length ts, List.length_cons]; show 2 + _ = _; omega
theorem tmsCells_append : ∀ a b : List Tm, tmsCells (a ++ b) = tmsCells a ++ tmsCells b
  | [], _ => rfl
  | t :: ts, b => by simp only [List.cons_append, tmsCells, tmsCells_append ts b, List.append_assoc]
theorem tmsCells_one : ∀ ts : List Tm, ∀ u ∈ tmsCells ts, u.oneCell' = true
  | [], u, h => by simp [tmsCells] at h
  | t :: ts, u, h => by
    simp only [tmsCells, List.mem_append] at h
    rcases h with h | h
    · simp only [tmCells, List.mem_cons, List.not_mem_nil, or_false] at h
      rcases h with rfl | rfl <;> rfl
    · exact tmsCells_one ts u h

theorem ArgsAt.nil (w : World) (S : Nat → Prop) : ArgsAt w [] S (.slice none 0 0) :=
  ⟨World.ownsRow_nil _ _ _ _, fun g h => by simp [Value.ownBlock] at h⟩
theorem ArgsAt.one {w : World} {ts : List Tm} {S : Nat → Prop} {v : Value} (h : ArgsAt w ts S v) : v.oneCell' = true := by
  rcases h.1.2 with ⟨rfl, _⟩ | ⟨_, _, _, rfl, _⟩ <;> rfl
theorem ArgsAt.slice {w : World} {ts : List Tm} {S : Nat → Prop} {v : Value} (h : ArgsAt w ts S v) : ∃ a n c, v = .slice a n c := by
  rcases h.1.2 with ⟨rfl, _⟩ | ⟨_, _, _, rfl, _⟩ <;> exact ⟨_, _, _, rfl⟩
theorem ownsRow_keep {w w' : World} {o : Nat} {e : TypeId} {m n : Nat} {v : Value} {xs : List Value} (h : w.ownsRow o e m v n xs) (hk : ∀ g, v.ownBlock = some g → w'.heap[g]? = w.heap[g]?) : w'.ownsRow o e m v n xs := by
  refine ⟨h.1, ?_⟩
  rcases h.2 with hn | ⟨g, cap, cur, rfl, hb, hg, rest⟩
  · exact .inl hn
  · exact .inr ⟨g, cap, cur, rfl, hb, (hk g rfl).trans hg, rest⟩
theorem ArgsAt.keep {w w' : World} {ts : List Tm} {S S' : Nat → Prop} {v : Value} (h : ArgsAt w ts S v) (hk : ∀ b, S b → b < w.heap.size → S' b ∧ w'.heap[b]? = w.heap[b]?) : ArgsAt w' ts S' v :=
  ⟨ownsRow_keep h.1 fun g hg => (hk g (h.2 g hg) (h.1.lt g hg).2).2, fun g hg => (hk g (h.2 g hg) (h.1.lt g hg).2).1⟩
theorem AllArgs.keep {w w' : World} : ∀ (is : List Ins) {S S' : Nat → Prop} {vs : List Value}, AllArgs w is S vs → (∀ b, S b → b < w.heap.size → S' b ∧ w'.heap[b]? = w.heap[b]?) → AllArgs w' is S' vs
  | [], _, _, _, h, _ => h
  | i :: is, S, S', vs, h, hk => by
    obtain ⟨v, vs', e, ha, hs⟩ := h
    exact ⟨v, vs', e, ha.keep hk, AllArgs.keep is hs hk⟩
theorem InsAt.keep {w w' : World} {is : List Ins} {S S' : Nat → Prop} {v : Value} (h : InsAt w is S v) (hk : ∀ b, S b → b < w.heap.size → S' b ∧ w'.heap[b]? = w.heap[b]?) : InsAt w' is S' v := by
  obtain ⟨vs, ho, hS, ha⟩ := h
  exact ⟨vs, ownsRow_keep ho fun g hg => (hk g (hS g hg) (ho.lt g hg).2).2, fun g hg => (hk g (hS g hg) (ho.lt g hg).2).1, AllArgs.keep is ha fun b hb hl => ⟨⟨(hk b hb.1 hl).1, hb.2⟩, (hk b hb.1 hl).2⟩⟩
theorem AllArgs.length {w : World} : ∀ {is : List Ins} {S : Nat → Prop} {vs : List Value}, AllArgs w is S vs → vs.length = is.length
  | [], _, _, h => by rw [show _ = [] from h]; rfl
  | i :: is, _, _, h => by obtain ⟨v, vs', rfl, _, h'⟩ := h; simp [AllArgs.length h']
theorem AllArgs.append {w : World} : ∀ {is js : List Ins} {S : Nat → Prop} {vs us : List Value}, AllArgs w is S vs → AllArgs w js S us → AllArgs w (is ++ js) S (vs ++ us)
  | [], _, _, vs, _, h, h' => by rw [show vs = [] from h]; exact h'
  | i :: is, js, _, _, us, h, h' => by
    obtain ⟨v, vs', rfl, ha, hs⟩ := h
    exact ⟨v, vs' ++ us, rfl, ha, AllArgs.append hs h'⟩
theorem insRow_append : ∀ (is js : List Ins) (vs us : List Value), vs.length = is.length → insRow (is ++ js) (vs ++ us) = insRow is vs ++ insRow js us
  | [], _, [], _, _ => rfl
  | i :: is, js, v :: vs, us, h => by
    simp only [List.cons_append, insRow, List.append_assoc]
    rw [insRow_append is js vs us (by simpa using h)]
theorem insRow_length {w : World} : ∀ {is : List Ins} {S : Nat → Prop} {vs : List Value}, AllArgs w is S vs → (insRow is vs).length = is.length * 11
  | [], _, _, _ => by simp [insRow]
  | i :: is, _, _, h => by
    obtain ⟨v, vs', rfl, _, hs⟩ := h
    simp only [insRow, List.length_append, insRow_length hs, List.length_cons]
    show 11 + _ = _
    omega
theorem insCells_one (i : Ins) (v : Value) (hv : v.oneCell' = true) : ∀ u ∈ insCells i v, u.oneCell' = true := by
  intro u hu
  simp only [insCells, List.mem_cons, List.not_mem_nil, or_false] at hu
  rcases hu with rfl | rfl | rfl | rfl | rfl | rfl | rfl | rfl | rfl | rfl | rfl
  all_goals first | rfl | exact hv
theorem InsAt.nil (w : World) (S : Nat → Prop) : InsAt w [] S (.slice none 0 0) :=
  ⟨[], World.ownsRow_nil _ _ _ _, (fun g h => by simp [Value.ownBlock] at h), rfl⟩

section
variable {w w' : World} {is : List Ins} {ts : List Tm} {S S' : Nat → Prop} {v : Value}
theorem InsAt.mono (h : InsAt w is S v) (hS : ∀ b, S b → b < w.heap.size → S' b) : InsAt w is S' v := h.keep fun b hb hl => ⟨hS b hb hl, rfl⟩
theorem InsAt.below (h : InsAt w is S v) (hk : Below w.heap.size w w') : InsAt w' is S v := h.keep fun b hb hl => ⟨hb, hk.block b hl⟩
theorem InsAt.alloc (h : InsAt w is S v) (o : Obj) : InsAt (w.alloc o) is S v := h.keep fun b hb hl => ⟨hb, Below.heap_alloc w o b hl⟩
theorem InsAt.drew (h : InsAt w is S v) : InsAt w.drew is S v := h.keep fun _ hb _ => ⟨hb, rfl⟩
theorem InsAt.setRow (h : InsAt w is S v) (g : Nat) (cs : Array Value) (hS : ∀ b, S b → b ≠ g) : InsAt (w.setRow g cs) is S v := h.keep fun b hb _ => ⟨hb, setRow_other w g b cs (hS b hb)⟩
theorem InsAt.setCell (h : InsAt w is S v) (a : Addr) (x : Value) (hS : ∀ b, S b → b ≠ a.block) : InsAt (w.setCell a x) is S v := h.keep fun b hb _ => ⟨hb, Below.heap_setCell w a x b (hS b hb)⟩
theorem ArgsAt.mono (h : ArgsAt w ts S v) (hS : ∀ b, S b → b < w.heap.size → S' b) : ArgsAt w ts S' v := h.keep fun b hb hl => ⟨hS b hb hl, rfl⟩
theorem ArgsAt.below (h : ArgsAt w ts S v) (hk : Below w.heap.size w w') : ArgsAt w' ts S v := h.keep fun b hb hl => ⟨hb, hk.block b hl⟩
theorem ArgsAt.alloc (h : ArgsAt w ts S v) (o : Obj) : ArgsAt (w.alloc o) ts S v := h.keep fun b hb hl => ⟨hb, Below.heap_alloc w o b hl⟩
theorem ArgsAt.drew (h : ArgsAt w ts S v) : ArgsAt w.drew ts S v := h.keep fun _ hb _ => ⟨hb, rfl⟩
theorem ArgsAt.setRow (h : ArgsAt w ts S v) (g : Nat) (cs : Array Value) (hS : ∀ b, S b → b ≠ g) : ArgsAt (w.setRow g cs) ts S v := h.keep fun b hb _ => ⟨hb, setRow_other w g b cs (hS b hb)⟩
theorem ArgsAt.setCell (h : ArgsAt w ts S v) (a : Addr) (x : Value) (hS : ∀ b, S b → b ≠ a.block) : ArgsAt (w.setCell a x) ts S v := h.keep fun b hb _ => ⟨hb, Below.heap_setCell w a x b (hS b hb)⟩
end
theorem InsAt.slice {w : World} {is : List Ins} {S : Nat → Prop} {v : Value} (h : InsAt w is S v) : ∃ a c, v = .slice a is.length c := by
  obtain ⟨_, ho, _⟩ := h
  rcases ho.2 with ⟨rfl, h0⟩ | ⟨g, cap, _, rfl, _⟩
  · exact ⟨_, _, by rw [h0]⟩
  · exact ⟨_, _, rfl⟩
theorem InsAt.one {w : World} {is : List Ins} {S : Nat → Prop} {v : Value} (h : InsAt w is S v) : v.oneCell' = true := by
  obtain ⟨_, _, rfl⟩ := h.slice
  rfl

/- Where the row lies behind an append of one element or more. -/
theorem append_blockN {P : Program} {w : World} {t ty e : TypeId} {i : TypeInfo} {z : Value} {m0 bytes : Nat} (ht : P.underlying t = some (.slice e)) (hi : P.info? e = some i) (hz : i.zero = some z) (hsize : i.size = m0) (hby : i.bytes = bytes)
    {v : Value} {n : Nat} {xs : List Value} (hown : w.ownsRow 0 e m0 v n xs) {a : Addr} {m c : Nat} {news : List Value} (hm : 0 < m) (hl : news.length = m * m0) (hnews : ∀ j u, news[j]? = some u → w.cell? (a.add j) = some u) (h1 : ∀ u ∈ news, u.oneCell' = true)
    (h63 : n + m ≤ maxLen) (hbytes : (n + m) * bytes ≤ 140737488355328) {v' : Value} {w' : World} (hr : (Builtin.append_ #[t, t] ty #[v, .slice (some a) m c]).run P w = .ok v' w') : v'.ownBlock = v.ownBlock ∨ v'.ownBlock = some w.heap.size := by
  subst hby
  have hsmall : n + m ≤ 9223372036854775807 := by simp only [maxLen] at h63; omega
  rw [← hsize] at hl
  rcases hown.2 with ⟨rfl, rfl⟩ | ⟨g, cap, cur, rfl, hbg, hg, hnc, hcm, hcs, htake⟩
  · have h := run_append_nil (P := P) w t ty e i z ht hi hz a m c news hl hnews hm (by omega) (by have hb := hbytes; simp only [Nat.zero_add] at hb; omega)
    rw [h] at hr
    cases hr
    exact .inr rfl
  · by_cases hroom : n + m ≤ cap
    · have hfit : n * i.size + news.length ≤ cur.size := by rw [hl, hcs, hsize, ← Nat.add_mul]; exact Nat.mul_le_mul_right _ hroom
      have h := run_append_room (P := P) w t ty e i ht hi g n cap cur hg a m c news hl hnews h1 hroom hfit
      rw [h] at hr
      cases hr
      exact .inl rfl
    · have h := run_append_grow (P := P) w t ty e i z ht hi hz ⟨g, 0, none⟩ n cap xs (by rw [hown.1, hsize]) (hown.cells (g := g) rfl) a m c news hl hnews (by omega) (by omega) (growslice_fits (by omega) hbytes)
      rw [h] at hr
      cases hr
      exact .inr rfl

structure RowInfo (P : Program) (t e : TypeId) (m bytes : Nat) (i : TypeInfo) (z : Value) : Prop where
  ht : P.underlying t = some (.slice e)
  hi : P.info? e = some i
  hz : i.zero = some z
  size : i.size = m
  bytes : i.bytes = bytes
  zs : z.cells.size = m

theorem run_append_ins {P : Program} {w : World} {t ty : TypeId} {i : TypeInfo} {z : Value} {by' : Nat} (I : RowInfo P t 43 11 by' i z) (hby : by' ≤ 1000) {is js : List Ins} {S : Nat → Prop} {v : Value} (hk : InsAt w is S v) {us : List Value}
    (hts : AllArgs w js (fun b => S b ∧ v.ownBlock ≠ some b) us) (hS : S w.heap.size) {a : Addr} {c : Nat} (hm : 0 < js.length) (hnews : ∀ j u, (insRow js us)[j]? = some u → w.cell? (a.add j) = some u) (h1 : ∀ u ∈ insRow js us, u.oneCell' = true) (hb : is.length + js.length ≤ 100000) :
    ∃ v' w', (Builtin.append_ #[t, t] ty #[v, .slice (some a) js.length c]).run P w = .ok v' w' ∧ InsAt w' (is ++ js) S v' ∧ w.grownBy w' v.ownBlock ∧ (v'.ownBlock = v.ownBlock ∨ v'.ownBlock = some w.heap.size) := by
  obtain ⟨vs, hown, hSv, hks⟩ := hk
  have hbb : (is.length + js.length) * by' ≤ 140737488355328 := Nat.le_trans (Nat.mul_le_mul hb hby) (by omega)
  obtain ⟨v', w', hr, ho', hg', _⟩ := run_append_own (P := P) w 0 t ty 43 i z 11 by' I.ht I.hi I.hz I.size I.bytes I.zs (by decide) v is.length (insRow is vs) hown a js.length c (insRow js us) (insRow_length hts) hnews h1
    (by unfold maxLen; omega) hbb (Nat.zero_le _)
  have hbk := append_blockN (ty := ty) I.ht I.hi I.hz I.size I.bytes hown hm (insRow_length hts) hnews h1 (by unfold maxLen; omega) hbb hr
  refine ⟨v', w', hr, ⟨vs ++ us, ?_, ?_, ?_⟩, hg', hbk⟩
  · rw [insRow_append _ _ _ _ hks.length, List.length_append]
    exact ho'
  · intro g hg
    rcases hbk with h | h
    · exact hSv g (h ▸ hg)
    · rw [h] at hg; cases hg; exact hS
  · have keep : ∀ b, (S b ∧ v.ownBlock ≠ some b) → b < w.heap.size → (S b ∧ v'.ownBlock ≠ some b) ∧ w'.heap[b]? = w.heap[b]? := fun b hb hl => by
      refine ⟨⟨hb.1, fun h => ?_⟩, hg'.block b hl (Ne.symm hb.2)⟩
      rcases hbk with h' | h'
      · exact hb.2 (h' ▸ h)
      · rw [h'] at h; cases h; exact absurd hl (Nat.lt_irrefl _)
    exact AllArgs.append (AllArgs.keep _ hks keep) (AllArgs.keep _ hts keep)

/- append of one instruction that lies in a new block. -/
theorem wp_append_ins {P : Program} {w : World} {o : Oper} {a : Act} {K : Act → World → Prop} {Q : Exit → Act → World → Prop} (s x : Operand) {t : TypeId} (ho : o.op = .call { callee := .builtin .append, args := #[s, x], argTypes := #[t, t] })
    {i : TypeInfo} {z : Value} {by' : Nat} (I : RowInfo P t 43 11 by' i z) (hby : by' ≤ 1000) {is : List Ins} {j : Ins} {S : Nat → Prop} {v : Value} (hs : a.eval s = v) (hk : InsAt w is S v) {u : Value}
    (hu : ArgsAt w j.args (fun b => S b ∧ v.ownBlock ≠ some b) u) (hS : S w.heap.size) {ad : Addr} {c : Nat} (hx : a.eval x = .slice (some ad) 1 c) (hnews : ∀ k y, (insCells j u)[k]? = some y → w.cell? (ad.add k) = some y)
    (hb : is.length + 1 ≤ 100000)
    (h : ∀ v' w', InsAt w' (is ++ [j]) S v' → w.grownBy w' v.ownBlock → (v'.ownBlock = v.ownBlock ∨ v'.ownBlock = some w.heap.size) → K (a.put o.dst v') w') : o.wp P a w K Q := by
  have hr1 : insRow [j] [u] = insCells j u := by simp [insRow]
  obtain ⟨v', w', hr, h2, h3, h4⟩ := run_append_ins (ty := o.type) (c := c) (a := ad) (js := [j]) (us := [u]) I hby hk ⟨u, [], rfl, hu, rfl⟩ hS (by simp) (by rw [hr1]; exact hnews) (by rw [hr1]; exact insCells_one j u hu.one) hb
  unfold Oper.wp execOp
  simp only [ho, resolve, invoke, builtin, Sem.run_bind, Sem.run_pure, Result.andThen_ok, List.map_toArray, List.map_cons, List.map_nil, hs, hx]
  rw [show ([j] : List Ins).length = 1 from rfl] at hr
  rw [hr]
  exact h v' w' h2 h3 h4
theorem wpList_append_ins {P : Program} {w : World} {ops : Array Oper} {rest : List Oper} {o : Oper} {a : Act} {Q : Exit → Act → World → Prop} (hgd : o.guard = none) (s x : Operand) {t : TypeId} (ho : o.op = .call { callee := .builtin .append, args := #[s, x], argTypes := #[t, t] })
    {i : TypeInfo} {z : Value} {by' : Nat} (I : RowInfo P t 43 11 by' i z) (hby : by' ≤ 1000) {is : List Ins} {j : Ins} {S : Nat → Prop} {v : Value} (hs : a.eval s = v) (hk : InsAt w is S v) {u : Value}
    (hu : ArgsAt w j.args (fun b => S b ∧ v.ownBlock ≠ some b) u) (hS : S w.heap.size) {ad : Addr} {c : Nat} (hx : a.eval x = .slice (some ad) 1 c) (hnews : ∀ k y, (insCells j u)[k]? = some y → w.cell? (ad.add k) = some y)
    (hb : is.length + 1 ≤ 100000)
    (h : ∀ v' w', InsAt w' (is ++ [j]) S v' → w.grownBy w' v.ownBlock → (v'.ownBlock = v.ownBlock ∨ v'.ownBlock = some w.heap.size) → wpList P ops Q rest (a.put o.dst v') w') : wpList P ops Q (o :: rest) a w :=
  wpList_plain hgd fun _ hK => wp_append_ins s x ho I hby hs hk hu hS hx hnews hb fun v' w' h2 h3 h4 => hK _ _ (h v' w' h2 h3 h4)

/- The cells of a literal of one instruction in a new block. -/
theorem ins1_at (w : World) (e : TypeId) (i : Ins) (v : Value) : ∀ k y, (insCells i v)[k]? = some y → (w.alloc (.cells (insCells i v).toArray e)).cell? ((⟨w.heap.size, 0, none⟩ : Addr).add k) = some y := by
  intro k y hy
  rw [Addr.add_mid, Nat.zero_add, (Blk.new w (insCells i v) e).cell k]
  exact hy

/- An instruction in a row, and a change of its To. -/
def Ins.setTo (i : Ins) (to : Nat) : Ins := ⟨i.op, i.place, i.x, i.y, i.a, i.b, i.args, to, i.has⟩
theorem insRow_get : ∀ (is : List Ins) (vs : List Value) (k : Nat) (i : Ins) (u : Value) (j : Nat), is[k]? = some i → vs[k]? = some u → j < 11 → (insRow is vs)[k * 11 + j]? = (insCells i u)[j]?
  | [], _, k, t, u, j, h, _, _ => by simp at h
  | _ :: _, [], k, t, u, j, _, h, _ => by simp at h
  | a :: ks, b :: vs, 0, t, u, j, h, h', hj => by
    obtain rfl : a = t := by simpa using h
    obtain rfl : b = u := by simpa using h'
    rw [insRow, Nat.zero_mul, Nat.zero_add, List.getElem?_append_left (by simpa [insCells] using hj)]
  | a :: ks, b :: vs, k + 1, t, u, j, h, h', hj => by
    rw [insRow, List.getElem?_append_right (by simp [insCells]; omega)]
    have e : (k + 1) * 11 + j - (insCells a b).length = k * 11 + j := by simp [insCells]; omega
    rw [e]
    exact insRow_get ks vs k t u j (by simpa using h) (by simpa using h') hj
theorem AllArgs.get {w : World} : ∀ {is : List Ins} {S : Nat → Prop} {vs : List Value}, AllArgs w is S vs → ∀ {k : Nat} {i : Ins}, is[k]? = some i → ∃ u, vs[k]? = some u ∧ ArgsAt w i.args S u
  | [], _, _, _, k, t, h => by simp at h
  | a :: ts, S, vs, h, 0, t, hk => by
    obtain ⟨v, vs', rfl, ht, _⟩ := h
    obtain rfl : a = t := by simpa using hk
    exact ⟨v, rfl, ht⟩
  | a :: ts, S, vs, h, k + 1, t, hk => by
    obtain ⟨v, vs', rfl, _, hts⟩ := h
    obtain ⟨u, hu, ht⟩ := AllArgs.get hts (k := k) (i := t) (by simpa using hk)
    exact ⟨u, by simpa using hu, ht⟩
theorem insCells_setTo (i : Ins) (v : Value) (to : Nat) : (insCells i v).set 9 (.int .i64 to) = insCells (i.setTo to) v := rfl
theorem insRow_setTo : ∀ (is : List Ins) (vs : List Value) (k : Nat) (i : Ins) (to : Nat), vs.length = is.length → is[k]? = some i → (insRow is vs).set (k * 11 + 9) (.int .i64 to) = insRow (is.set k (i.setTo to)) vs
  | [], _, k, t, _, _, h => by simp at h
  | a :: ks, [], k, t, _, h, _ => by simp at h
  | a :: ks, b :: vs, 0, t, to, _, h => by
    obtain rfl : a = t := by simpa using h
    rw [List.set_cons_zero, insRow, insRow, Nat.zero_mul, Nat.zero_add, List.set_append_left _ _ (by simp [insCells]), insCells_setTo]
  | a :: ks, b :: vs, k + 1, t, to, hl, h => by
    rw [List.set_cons_succ, insRow, insRow, List.set_append_right _ _ (by simp [insCells]; omega)]
    have e : (k + 1) * 11 + 9 - (insCells a b).length = k * 11 + 9 := by simp [insCells]; omega
    rw [e, insRow_setTo ks vs k t to (by simpa using hl) (by simpa using h)]
theorem AllArgs.setTo {w : World} : ∀ {is : List Ins} {S : Nat → Prop} {vs : List Value} {k : Nat} {i : Ins} {to : Nat}, AllArgs w is S vs → is[k]? = some i → AllArgs w (is.set k (i.setTo to)) S vs
  | [], _, _, k, t, _, _, h => by simp at h
  | a :: ks, _, _, 0, t, _, h, hk => by
    obtain ⟨v, vs', rfl, ha, hs⟩ := h
    obtain rfl : a = t := by simpa using hk
    exact ⟨v, vs', rfl, ha, hs⟩
  | a :: ks, _, _, k + 1, t, _, h, hk => by
    obtain ⟨v, vs', rfl, ha, hs⟩ := h
    exact ⟨v, vs', rfl, ha, AllArgs.setTo hs (by simpa using hk)⟩
end

end Go.Proofs.YtnmpfpnldcgbaaaDoor
