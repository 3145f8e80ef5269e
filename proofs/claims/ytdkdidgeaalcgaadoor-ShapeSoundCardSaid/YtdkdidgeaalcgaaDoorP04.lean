/- What the rows' list of package-level variables gives the walks: a world that meets it holds the tables of lex (Tabs). And the world of the witness, which meets it. A row of tokens in memory, read token by token. What the parser's memory is while it reads (PSt), what a call of one of its methods comes to (PPost), and the contracts of the methods that look at the next token or take it. -/
import Derived.Test.YtdkdidgeaalcgaaDoorCards
import Derived.Test.YtdkdidgeaalcgaaDoorTie
import Derived.Test.YtdkdidgeaalcgaaDoorP03
import Derived.ProofKit
import Derived.OpenShut
import Derived.Deep.DeepHandedRow
import Derived.Lib.LaidTab
import Derived.Deep.AppendLies
import Derived.Test.YtdkdidgeaalcgaaDoorP02
import Derived.Deep.MidRow
namespace Go.Proofs.YtdkdidgeaalcgaaDoor
section
open Go.ChangeShapes Go.WideShapes Go.ChangeAt Go.ChangeMaps Go.RowKit

theorem own : ownKnob Tryd.prog.godebug = none := by kernel_rfl
theorem gKeys : Tryd.prog.globalNamed "lychgate/lex.keys" = some 2 := by kernel_rfl
theorem gBlanks : Tryd.prog.globalNamed "lychgate/lex.blanks" = some 0 := by kernel_rfl
theorem gPairs : Tryd.prog.globalNamed "lychgate/lex.pairs" = some 1 := by kernel_rfl
theorem tKeys : (Tryd.prog.globals[2]?).map (·.type) = some 108 := by kernel_rfl
theorem tBlanks : (Tryd.prog.globals[0]?).map (·.type) = some 70 := by kernel_rfl
theorem tPairs : (Tryd.prog.globals[1]?).map (·.type) = some 99 := by kernel_rfl
theorem cString : Tryd.prog.cellsOf 9 = 1 := by kernel_rfl
theorem cByte : Tryd.prog.cellsOf 5 = 1 := by kernel_rfl
theorem cBlanks : Tryd.prog.cellsOf 70 = 2 := by kernel_rfl

theorem bytes_of (s : ByteArray) : s = ⟨s.data.toList.toArray⟩ := by
  obtain ⟨d⟩ := s
  simp

/- An array of texts that reads as a list of texts holds them, cell for cell. -/
theorem cells_of_strs {H : Type} {enc : TypeId × Value → H} {P : Program} {w : World} {base : Nat} {sp : Nat → Bool} {held : Bool} {fuel : Nat} {t e : TypeId} {n : Nat} {cs : List Value} {ls : List (List UInt8)} {p : List MemPlace}
    (ht : P.underlying t = some (.array n e)) (he : P.underlying e = some .string) (hce : P.cellsOf e = 1)
    (h : DataW.trod enc P w base sp held fuel t cs = some (.agg (ls.map fun l => .lit (.string l)), p)) (i : Nat) (hi : i < n) : cs[i]? = some (.string ⟨(ls.getD i []).toArray⟩) := by
  obtain ⟨xs, m, _, hx, _, hxl, hel⟩ := DataW.trod_array ht h
  simp only [Prod.mk.injEq, DataW.agg.injEq] at hx
  have h1 := hel i hi
  rw [hce, Nat.mul_one, List.getElem?_eq_getElem (by omega)] at h1
  obtain ⟨s, hc, hy, _⟩ := DataW.trod_string he h1
  have h2 : cs[i]? = some (.string s) := by
    have := congrArg (·[0]?) hc
    simpa [List.getElem?_take, List.getElem?_drop] using this
  have h3 : (ls.map fun l => (DataW.lit (.string l) : DataW H))[i]? = some (.lit (.string s.data.toList)) := by
    rw [hx.1, List.getElem?_map, List.getElem?_eq_getElem (by omega), hy]
    rfl
  rw [List.getElem?_map, Option.map_eq_some_iff] at h3
  obtain ⟨l, hl, hs⟩ := h3
  simp only [DataW.lit.injEq, Lit.string.injEq] at hs
  rw [h2, List.getD_eq_getElem?_getD, hl, Option.getD_some, hs, ← bytes_of]

theorem cell_lt {w : World} {b o : Nat} {v : Value} (h : w.cell? ⟨b, o, none⟩ = some v) : b < w.heap.size := by
  rcases Nat.lt_or_ge b w.heap.size with hlt | hge
  · exact hlt
  · simp [World.cell?, Array.getElem?_eq_none hge] at h

/- The list that all rows of this seat bear. -/
def laid3 : List (String × DataW Unit) := [("lychgate/lex.keys", Rows.laid_lychgate_lex_keys), ("lychgate/lex.blanks", Rows.laid_lychgate_lex_blanks), ("lychgate/lex.pairs", Rows.laid_lychgate_lex_pairs)]

theorem tabs_of_laid {W : World} (h : laidMetH Tryd.prog laid3 W) : Tabs W := by
  rw [MakeChecks.laidMetH_plain _ _ _ (by kernel_rfl)] at h
  obtain ⟨ps, ⟨g0, t0, cs0, f0, p0, q0, hg0, ht0, hv0, hd0, ⟨g1, t1, cs1, f1, p1, q1, hg1, ht1, hv1, hd1, ⟨g2, t2, cs2, f2, p2, q2, hg2, ht2, hv2, hd2, _, _⟩, _⟩, _⟩, _, _⟩ := h
  obtain rfl := Option.some.inj (gKeys.symm.trans hg0)
  obtain rfl := Option.some.inj (gBlanks.symm.trans hg1)
  obtain rfl := Option.some.inj (gPairs.symm.trans hg2)
  obtain rfl := Option.some.inj (tKeys.symm.trans ht0)
  obtain rfl := Option.some.inj (tBlanks.symm.trans ht1)
  obtain rfl := Option.some.inj (tPairs.symm.trans ht2)
  have hk : ∀ i, i < 20 → W.cell? ⟨2, i, none⟩ = some (.string (keyAt i)) := fun i hi => by
    have h1 := World.var?_cell hg0 hv0 i
    have h2 := cells_of_strs (ls := keyList) Tryd.underlying108 Tryd.underlying9 cString hd0 i hi
    rw [h1, ← Array.getElem?_toList, h2]
    rfl
  have hp : ∀ i, i < 3 → W.cell? ⟨1, i, none⟩ = some (.string (pairAt i)) := fun i hi => by
    have h1 := World.var?_cell hg2 hv2 i
    have h2 := cells_of_strs (ls := [[45, 62], [60, 61], [61, 61]]) Tryd.underlying99 Tryd.underlying9 cString hd2 i hi
    rw [h1, ← Array.getElem?_toList, h2]
    rfl
  have hb := Lib.cells_of_tab (zs := [32, 10]) Tryd.underlying70 Tryd.underlying5 cByte cBlanks hd1
  have hb' : ∀ i : Nat, W.cell? ⟨0, i, none⟩ = ([32, 10].map fun z => Value.int .u8 z)[i]? := fun i => by
    rw [World.var?_cell hg1 hv1 i, ← Array.getElem?_toList, hb]
  exact ⟨hb' 0, hb' 1, hk, hp, cell_lt (hb' 0), cell_lt (hk 0 (by omega)), cell_lt (hp 0 (by omega))⟩

/- A world for the witness: the settled one, the tables holding what their initialisers lay. -/
def laying (cs : Array Value) : Obj → Obj
  | .cells _ t frozen => .cells cs t frozen
  | o => o
noncomputable def laidWorld (os : Os) : World :=
  { World.holding Tryd.prog os ⟨#[], #[], []⟩ with heap := (((World.holding Tryd.prog os ⟨#[], #[], []⟩).heap.modify 0 (laying #[.int .u8 32, .int .u8 10])).modify 2 (laying keyVals.toArray)).modify 1 (laying pairVals.toArray) }

/- What a law's row asks behind the call: the answer true, the text as it was, nothing else changed. -/
theorem post_text {H : Type} {enc : TypeId × Value → H} {fn : Func} {sp : ChangeSpec} {W W' : World} {s : ByteArray} {before : List MemPlace}
    (hp : fn.params.toList = [9]) (hr : fn.resultTypes = #[4]) (hvars : sp.vars = []) (hfn : sp.fn H [.lit (.string s.data.toList)] = { results := [.lit (.bool true)], args := [.lit (.string s.data.toList)] }) (hs : s.size ≤ maxLen)
    (hW : DataW.Whole enc Tryd.prog fn.params.toList sp.vars false W [.string s] [.lit (.string s.data.toList)] [] before) (hb : Below W.heap.size W W') :
    sp.post enc Tryd.prog fn false true false false W #[.string s] (.bool true) W' := by
  refine ⟨_, _, before, [], [], [], hW, ?_, ?_, ?_, hb.frame _, fun h => by cases h⟩
  · rw [List.append_nil, hfn, hr]
    exact trodAll_cons_mk (shut_bool Tryd.underlying4 _) trodAll_mk0
  · rw [List.append_nil, hfn, hp]
    exact trodAll_cons_mk (shut_string Tryd.underlying9 hs) trodAll_mk0
  · rw [List.append_nil, hfn, hvars]
    rfl

/- From the walk of a law of one text to what its row asks of a call. -/
set_option maxRecDepth 100000 in
theorem text_contract {H : Type} {enc : TypeId × Value → H} {f : FuncId} {fn : Func} {sp : ChangeSpec} (hp : fn.params = #[9]) (hr : fn.resultTypes = #[4]) (hvars : sp.vars = [])
    (hfn : ∀ d : DataW H, sp.fn H [d] = { results := [.lit (.bool true)], args := [d] })
    (walk : ∀ (s : ByteArray) (w : World), s.size ≤ maxLen → Tabs w → Calls Tryd.prog f #[.string s] w fun e w' => e = .returned (.bool true) ∧ Below w.heap.size w w')
    (W : World) (base : Nat) (args : Array Value) (ds gs : List (DataW H)) (before : List MemPlace)
    (hval : ∀ (j : Nat) t v, fn.params[j]? = some t → args[j]? = some v → Value.okWide Tryd.prog W .any base t v)
    (hW : DataW.Whole enc Tryd.prog fn.params.toList sp.vars false W args.toList ds gs before) (hL : laidMetH Tryd.prog laid3 W) :
    Calls Tryd.prog f args W fun e W' => ∃ v, e = .returned v ∧ sp.post enc Tryd.prog fn false true false false W args v W' := by
  have hW' := hW
  obtain ⟨p, q, hA0, hV, rfl, hfz, hnd⟩ := hW
  rw [hvars] at hV
  have hA : DataW.TrodAll enc Tryd.prog W 0 (fun _ => true) true fn.params.toList args.toList ds p := hA0
  rw [hp] at hA hval
  obtain ⟨v0, vs0, d0, ds0, p0, q0, hargs, rfl, rfl, h0, r0⟩ := trodAll_cons hA
  obtain ⟨rfl, rfl, rfl⟩ := trodAll_nil r0
  obtain rfl : args = #[v0] := by cases args; simp_all
  obtain ⟨rfl, rfl⟩ := trodVars_none hV
  obtain ⟨s, rfl, rfl, rfl, hs⟩ := open_string Tryd.underlying9 (hval 0 9 v0 (by simp) (by simp)) h0
  clear hA0
  refine (walk s W hs (tabs_of_laid hL)).mono fun e W' ⟨he, hb⟩ => ⟨_, he, ?_⟩
  exact post_text (by rw [hp]) hr hvars (hfn _) hs hW' hb

theorem laid_met_text (os : Os) : laidMet Tryd.prog laid3 ((laidWorld os).forCall (fun _ _ => 0) ⟨#[], #[.string ⟨#[]⟩], []⟩).memory :=
  laidMet_of_run' 8 (by kernel_rfl) (by kernel_rfl)
end

section
open Go.RowKit

theorem cellsOf_get : ∀ (ts : List Tok) (i : Nat) (t : Tok) (q : Nat), ts[i]? = some t → q < 4 → (cellsOf ts)[i * 4 + q]? = (tokCells t)[q]?
  | [], i, t, q, h, _ => by simp at h
  | u :: ts, 0, t, q, h, hq => by
    have e : u = t := by simpa using h
    subst e
    show (tokCells u ++ cellsOf ts)[0 * 4 + q]? = _
    rw [Nat.zero_mul, Nat.zero_add, List.getElem?_append_left (by simpa [tokCells] using hq)]
  | u :: ts, i + 1, t, q, h, hq => by
    show (tokCells u ++ cellsOf ts)[(i + 1) * 4 + q]? = _
    rw [List.getElem?_append_right (by simp [tokCells]; omega)]
    have e : (i + 1) * 4 + q - (tokCells u).length = i * 4 + q := by simp [tokCells]; omega
    rw [e]
    exact cellsOf_get ts i t q (by simpa using h) hq

def RowAt (w : World) (g : Nat) (ts : List Tok) : Prop := ∀ i t, ts[i]? = some t →
  w.cell? ⟨g, i * 4, none⟩ = some (.int .i64 t.kind) ∧ w.cell? ⟨g, i * 4 + 1, none⟩ = some (.string t.text) ∧ w.cell? ⟨g, i * 4 + 2, none⟩ = some (.int .i64 t.num) ∧ w.cell? ⟨g, i * 4 + 3, none⟩ = some (.int .i64 t.place)

theorem RowAt.below {w w' : World} {g B : Nat} {ts : List Tok} (h : RowAt w g ts) (hb : Below B w w') (hg : g < B) : RowAt w' g ts := fun i t ht => by
  obtain ⟨h0, h1, h2, h3⟩ := h i t ht
  exact ⟨(hb.cell (p := ⟨g, i * 4, none⟩) hg).trans h0, (hb.cell (p := ⟨g, i * 4 + 1, none⟩) hg).trans h1, (hb.cell (p := ⟨g, i * 4 + 2, none⟩) hg).trans h2, (hb.cell (p := ⟨g, i * 4 + 3, none⟩) hg).trans h3⟩

theorem row_of_own {w : World} {base : Nat} {v : Value} {ts : List Tok} (h : w.ownsRow base 75 4 v ts.length (cellsOf ts)) (hn : 0 < ts.length) :
    ∃ g cap, v = .slice (some ⟨g, 0, none⟩) ts.length cap ∧ base ≤ g ∧ g < w.heap.size ∧ ts.length ≤ cap ∧ RowAt w g ts := by
  obtain ⟨g, cap, rfl, hg1, hg2⟩ := h.form hn
  have hcap : ts.length ≤ cap := by
    rcases h.2 with ⟨h0, _⟩ | ⟨g', cap', cur, hv, _, _, hle, _⟩
    · cases h0
    · cases hv; exact hle
  refine ⟨g, cap, rfl, hg1, hg2, hcap, fun i t ht => ?_⟩
  have hi : i < ts.length := (List.getElem?_eq_some_iff.1 ht).1
  have c : ∀ q, q < 4 → w.cell? ⟨g, i * 4 + q, none⟩ = (tokCells t)[q]? := fun q hq => by
    rw [h.cellAt (i * 4 + q) (by omega), cellsOf_get ts i t q ht hq]
  exact ⟨c 0 (by omega), c 1 (by omega), c 2 (by omega), c 3 (by omega)⟩
end

section
open Go.RowKit

theorem isT_def (t : Tok) (s : ByteArray) : isT t s = (t.text.toList == s.toList) := rfl

/- Where the parser lies, where its tokens lie, and which they are. -/
structure Env where
  pb : Nat
  tb : Nat
  cap : Nat
  ts : List Tok

/- A token that lex may make. -/
structure TokOK (t : Tok) : Prop where
  num : t.num ≤ 1099511627776
  place : t.place ≤ 16384
  size : t.text.size ≤ 16384

/- The last token is the End, and no other is. -/
def Ends : List Tok → Prop
  | [] => False
  | t :: l => (l = [] ∧ t.kind = 0 ∧ t.text = ⟨#[]⟩) ∨ (t.kind ≠ 0 ∧ Ends l)

structure PSt (E : Env) (w : World) (l : List Tok) (d : Nat) : Prop where
  le : l.length ≤ E.ts.length
  suf : l = E.ts.drop (E.ts.length - l.length)
  blk : w.heap[E.pb]? = some (.cells #[.slice (some ⟨E.tb, 0, none⟩) E.ts.length E.cap, .int .i64 ((E.ts.length - l.length : Nat) : Int), .int .i64 d] 81 (0, 0))
  row : RowAt w E.tb E.ts
  ne : E.tb ≠ E.pb
  tlt : E.tb < w.heap.size
  ends : Ends l
  ok : ∀ t ∈ E.ts, TokOK t
  len : E.ts.length ≤ 16385
  capb : E.ts.length ≤ E.cap
  deep : d ≤ 8

theorem PSt.plt {E : Env} {w : World} {l : List Tok} {d : Nat} (h : PSt E w l d) : E.pb < w.heap.size := by
  have := h.blk
  rcases Nat.lt_or_ge E.pb w.heap.size with hlt | hge
  · exact hlt
  · rw [Array.getElem?_eq_none hge] at this; cases this

theorem PSt.cell {E : Env} {w : World} {l : List Tok} {d : Nat} (h : PSt E w l d) :
    w.cell? ⟨E.pb, 0, none⟩ = some (.slice (some ⟨E.tb, 0, none⟩) E.ts.length E.cap) ∧ w.cell? ⟨E.pb, 1, none⟩ = some (.int .i64 ((E.ts.length - l.length : Nat) : Int)) ∧ w.cell? ⟨E.pb, 2, none⟩ = some (.int .i64 d) ∧
    (∀ o, w.frozen? ⟨E.pb, o, none⟩ = false) := by
  refine ⟨?_, ?_, ?_, fun o => ?_⟩
  · rw [cell_of_row _ _ _ _ _ _ h.blk]; rfl
  · rw [cell_of_row _ _ _ _ _ _ h.blk]; rfl
  · rw [cell_of_row _ _ _ _ _ _ h.blk]; rfl
  · simp [World.frozen?, h.blk]

theorem Ends.ne {l : List Tok} (h : Ends l) : ∃ t r, l = t :: r := by
  cases l with
  | nil => exact h.elim
  | cons t r => exact ⟨t, r, rfl⟩

theorem PSt.head {E : Env} {w : World} {l : List Tok} {d : Nat} (h : PSt E w l d) : 0 < l.length ∧ E.ts[E.ts.length - l.length]? = some (hdT l) := by
  obtain ⟨t, r, rfl⟩ := h.ends.ne
  refine ⟨by simp, ?_⟩
  have h1 : (E.ts.drop (E.ts.length - (t :: r).length))[0]? = some t := by rw [← h.suf]; rfl
  rw [List.getElem?_drop] at h1
  exact h1

theorem PSt.tok {E : Env} {w : World} {l : List Tok} {d : Nat} (h : PSt E w l d) :
    w.cell? ⟨E.tb, (E.ts.length - l.length) * 4, none⟩ = some (.int .i64 (hdT l).kind) ∧ w.cell? ⟨E.tb, (E.ts.length - l.length) * 4 + 1, none⟩ = some (.string (hdT l).text) ∧
    w.cell? ⟨E.tb, (E.ts.length - l.length) * 4 + 2, none⟩ = some (.int .i64 (hdT l).num) ∧ w.cell? ⟨E.tb, (E.ts.length - l.length) * 4 + 3, none⟩ = some (.int .i64 (hdT l).place) :=
  h.row _ _ h.head.2

theorem PSt.headOK {E : Env} {w : World} {l : List Tok} {d : Nat} (h : PSt E w l d) : TokOK (hdT l) := h.ok _ (List.mem_of_getElem? h.head.2)

/- A row of tokens stays where no block of it is changed. -/
theorem RowAt.same {w w' : World} {g : Nat} {ts : List Tok} (h : RowAt w g ts) (hb : w'.heap[g]? = w.heap[g]?) : RowAt w' g ts := fun i t ht => by
  obtain ⟨h0, h1, h2, h3⟩ := h i t ht
  exact ⟨(World.cell?_of_block (a := ⟨g, i * 4, none⟩) hb).trans h0, (World.cell?_of_block (a := ⟨g, i * 4 + 1, none⟩) hb).trans h1, (World.cell?_of_block (a := ⟨g, i * 4 + 2, none⟩) hb).trans h2, (World.cell?_of_block (a := ⟨g, i * 4 + 3, none⟩) hb).trans h3⟩

/- The parser is as it was where its block and its tokens' block are. -/
theorem PSt.same {E : Env} {w w' : World} {l : List Tok} {d : Nat} (h : PSt E w l d) (hs : w.heap.size ≤ w'.heap.size) (hp : w'.heap[E.pb]? = w.heap[E.pb]?) (ht : w'.heap[E.tb]? = w.heap[E.tb]?) : PSt E w' l d :=
  ⟨h.le, h.suf, hp.trans h.blk, h.row.same ht, h.ne, Nat.lt_of_lt_of_le h.tlt hs, h.ends, h.ok, h.len, h.capb, h.deep⟩

theorem PSt.below {E : Env} {w w' : World} {l : List Tok} {d : Nat} (h : PSt E w l d) (hb : Below w.heap.size w w') : PSt E w' l d :=
  h.same hb.size (hb.block _ h.plt) (hb.block _ h.tlt)

theorem PSt.alloc {E : Env} {w : World} {l : List Tok} {d : Nat} (h : PSt E w l d) (o : Obj) : PSt E (w.alloc o) l d :=
  h.below ((Below.refl _ _).alloc (Nat.le_refl _) _)

/- Nothing that was there has changed but the parser's own block. -/
abbrev Kp (pb : Nat) (w w' : World) : Prop := w.grownBy w' (some pb)

theorem Kp.refl (pb : Nat) (w : World) : Kp pb w w := ⟨rfl, rfl, rfl, Nat.le_refl _, fun _ _ _ => rfl⟩
theorem Kp.trans {pb : Nat} {a b c : World} (h : Kp pb a b) (k : Kp pb b c) : Kp pb a c :=
  ⟨k.os.trans h.os, k.tape.trans h.tape, k.output.trans h.output, Nat.le_trans h.size k.size, fun i hi hn => (k.block i (Nat.lt_of_lt_of_le hi h.size) hn).trans (h.block i hi hn)⟩
theorem Kp.of_below {pb : Nat} {w w' : World} (h : Below w.heap.size w w') : Kp pb w w' := ⟨h.os, h.tape, h.output, h.size, fun i hi _ => h.block i hi⟩
theorem Kp.alloc {pb : Nat} {a w : World} (h : Kp pb a w) (o : Obj) : Kp pb a (w.alloc o) := h.trans (World.grownBy_alloc w o _)
theorem Kp.setPb {pb : Nat} {a w : World} (h : Kp pb a w) (o : Nat) (v : Value) : Kp pb a (w.setCell ⟨pb, o, none⟩ v) :=
  h.trans ⟨rfl, rfl, rfl, by simp [World.setCell], fun k _ hk => Below.heap_setCell _ _ _ _ (fun e => hk (by rw [e]))⟩
/- A store into a block that is newer than the first world. -/
theorem Kp.setNew {pb : Nat} {a w : World} (h : Kp pb a w) {p : Addr} (hp : a.heap.size ≤ p.block) (v : Value) : Kp pb a (w.setCell p v) :=
  ⟨h.os, h.tape, h.output, by simpa [World.setCell] using h.size, fun k hk hn => (Below.heap_setCell w p v k (by omega)).trans (h.block k hk hn)⟩
theorem Kp.drew {pb : Nat} {a w : World} (h : Kp pb a w) : Kp pb a w.drew := ⟨h.os, h.tape, h.output, h.size, h.block⟩
/- What is below the parser and what is new is as it was. -/
theorem Kp.below {pb B : Nat} {w w' : World} (h : Kp pb w w') (hB : B ≤ pb) (hp : pb < w.heap.size) : Below B w w' :=
  ⟨h.os, h.tape, h.output, h.size, fun k hk => h.block k (by omega) (by simp; omega)⟩
theorem Kp.cell {pb : Nat} {w w' : World} (h : Kp pb w w') : (∀ b o, b ≠ pb → b < w.heap.size → w'.cell? ⟨b, o, none⟩ = w.cell? ⟨b, o, none⟩) ∧ (∀ b o, b ≠ pb → b < w.heap.size → w'.frozen? ⟨b, o, none⟩ = w.frozen? ⟨b, o, none⟩) :=
  ⟨fun b o hb hs => World.cell?_of_block (a := ⟨b, o, none⟩) (h.block b hs (by simpa using hb)), fun b o hb hs => World.frozen?_of_block (a := ⟨b, o, none⟩) (h.block b hs (by simpa using hb))⟩

/- What is newer than a number and older than the call is as it was. -/
theorem kcell {pb lo : Nat} {w w' : World} (h : Kp pb w w') (hlo : pb < lo) : (∀ b o, lo ≤ b → b < w.heap.size → w'.cell? ⟨b, o, none⟩ = w.cell? ⟨b, o, none⟩) ∧ (∀ b o, lo ≤ b → b < w.heap.size → w'.frozen? ⟨b, o, none⟩ = w.frozen? ⟨b, o, none⟩) :=
  ⟨fun b o hb hs => h.cell.1 b o (by omega) hs, fun b o hb hs => h.cell.2 b o (by omega) hs⟩

theorem Ends.tail {l : List Tok} (h : Ends l) (hk : (hdT l).kind ≠ 0) : Ends l.tail := by
  obtain ⟨t, r, rfl⟩ := h.ne
  rcases h with ⟨_, h0, _⟩ | ⟨_, h1⟩
  · exact absurd h0 hk
  · exact h1
theorem Ends.tail_is {l : List Tok} (h : Ends l) {s : ByteArray} (hi : isT (hdT l) s = true) (hs : 0 < s.size) : Ends l.tail := by
  refine h.tail fun h0 => ?_
  obtain ⟨t, r, rfl⟩ := h.ne
  rcases h with ⟨_, _, h2⟩ | ⟨h1, _⟩
  · unfold isT at hi
    have e : (hdT (t :: r)).text = t.text := rfl
    rw [e, h2] at hi
    have h3 := beq_iff_eq.1 hi
    rw [ByteArray.toList_eq, ByteArray.toList_eq] at h3
    have h4 := congrArg List.length h3
    simp at h4
    have : s.data.size = s.size := rfl
    omega
  · exact h1 h0

/- A block that is known whole. -/
def Blk (w : World) (g : Nat) (cs : List Value) (t : TypeId) : Prop := w.heap[g]? = some (.cells cs.toArray t (0, 0))
theorem Blk.lt {w : World} {g : Nat} {cs : List Value} {t : TypeId} (h : Blk w g cs t) : g < w.heap.size := (Array.getElem?_eq_some_iff.1 h).1
theorem Blk.new (w : World) (cs : List Value) (t : TypeId) : Blk (w.alloc (.cells cs.toArray t)) w.heap.size cs t := heap_alloc_new w _
theorem Blk.new2 (w : World) (o : Obj) (cs : List Value) (t : TypeId) : Blk ((w.alloc o).alloc (.cells cs.toArray t)) (w.heap.size + 1) cs t := by
  have h := Blk.new (w.alloc o) cs t
  rwa [show (w.alloc o).heap.size = w.heap.size + 1 by simp] at h
theorem Blk.alloc {w : World} {g : Nat} {cs : List Value} {t : TypeId} (h : Blk w g cs t) (o : Obj) : Blk (w.alloc o) g cs t := (Below.heap_alloc w o g h.lt).trans h
theorem Blk.drew {w : World} {g : Nat} {cs : List Value} {t : TypeId} (h : Blk w g cs t) : Blk w.drew g cs t := h
theorem Blk.setOther {w : World} {g : Nat} {cs : List Value} {t : TypeId} (h : Blk w g cs t) (a : Addr) (v : Value) (hn : g ≠ a.block) : Blk (w.setCell a v) g cs t := (Below.heap_setCell w a v g hn).trans h
theorem Blk.setSame {w : World} {g : Nat} {cs : List Value} {t : TypeId} (h : Blk w g cs t) (o : Nat) (v : Value) : Blk (w.setCell ⟨g, o, none⟩ v) g (cs.set o v) t := by
  unfold Blk at h ⊢
  simp only [World.setCell, Array.getElem?_modify, if_pos, h, Option.map_some]
  simp
theorem Blk.rowOther {w : World} {g : Nat} {cs : List Value} {t : TypeId} (h : Blk w g cs t) (g' : Nat) (ds : Array Value) (hn : g ≠ g') : Blk (w.setRow g' ds) g cs t := (setRow_other w g' g ds hn).trans h
theorem Blk.kp {pb : Nat} {w w' : World} {g : Nat} {cs : List Value} {t : TypeId} (h : Blk w g cs t) (hk : Kp pb w w') (hn : g ≠ pb) : Blk w' g cs t := (hk.block g h.lt (by simpa using hn)).trans h
theorem Blk.cell {w : World} {g : Nat} {cs : List Value} {t : TypeId} (h : Blk w g cs t) (o : Nat) : w.cell? ⟨g, o, none⟩ = cs[o]? := by
  rw [cell_of_row _ _ _ _ _ _ h]; simp
theorem Blk.frozen {w : World} {g : Nat} {cs : List Value} {t : TypeId} (h : Blk w g cs t) (o : Nat) : w.frozen? ⟨g, o, none⟩ = false := by
  unfold Blk at h; simp [World.frozen?, h]
theorem Kp.setRow {pb : Nat} {a w : World} (h : Kp pb a w) {g : Nat} (hg : a.heap.size ≤ g) (cs : Array Value) : Kp pb a (w.setRow g cs) :=
  ⟨h.os, h.tape, h.output, by simpa using h.size, fun k hk hn => (setRow_other w g k cs (by omega)).trans (h.block k hk hn)⟩
theorem PSt.setRow {E : Env} {w : World} {l : List Tok} {d : Nat} (h : PSt E w l d) {g : Nat} (hp : E.pb ≠ g) (ht : E.tb ≠ g) (cs : Array Value) : PSt E (w.setRow g cs) l d :=
  h.same (by simp) (setRow_other w g _ cs hp) (setRow_other w g _ cs ht)

/- Does the next operation store a value of that type at that place? (A quick look ahead of a law.) -/
theorem at_st (ty : TypeId) (x : Operand) {P : Program} {ops : Array Oper} {rest : List Oper} {y : Operand} {tt : TypeId} {ps : String} {af : Array Edge} {a : Act} {w : World} {Q : Exit → Act → World → Prop}
    (h : wpList P ops Q (⟨none, .store ty x y, tt, ps, af, none⟩ :: rest) a w) : wpList P ops Q (⟨none, .store ty x y, tt, ps, af, none⟩ :: rest) a w := h

/- A store of a whole block. -/
theorem wpList_store_blk {P : Program} {ops : Array Oper} {rest : List Oper} {o : Oper} {a : Act} {w : World} {Q : Exit → Act → World → Prop} (hgd : o.guard = none) (ty : TypeId) (x y : Operand) (ho : o.op = .store ty x y)
    (g : Nat) (cells : List Value) (hx : a.eval x = .pointer (some ⟨g, 0, none⟩)) (hy : a.eval y = .agg cells.toArray)
    {t : TypeId} {old : List Value} (hg : Blk w g old t) (hi : (P.info? ty).map (·.size) = some cells.length)
    (hold : old.length = cells.length) (h1 : ∀ v ∈ cells, v.oneCell' = true)
    (h : wpList P ops Q rest (a.put o.dst undef) (w.setRow g cells.toArray)) : wpList P ops Q (o :: rest) a w :=
  wpList_store_row hgd ty x y ho g cells.toArray hx hy t old.toArray hg (by simpa using hi) (by simpa using hold) (all_oneCell_toArray h1) h
theorem setRow_new (w : World) (old cs : Array Value) (t : TypeId) : (w.alloc (.cells old t)).setRow w.heap.size cs = w.alloc (.cells cs t) := by
  have h : ∀ h1 h2 : Array Obj, h1 = h2 → ({ w with heap := h1 } : World) = { w with heap := h2 } := fun _ _ e => by rw [e]
  refine h _ _ ?_
  show (w.heap.push (.cells old t)).modify _ _ = w.heap.push (.cells cs t)
  apply Array.ext
  · simp
  · intro i h1 h2
    simp only [Array.getElem_modify]
    split
    · rename_i hi; subst hi; simp
    · rename_i hi
      have hlt : i < w.heap.size := by simp at h2; omega
      rw [Array.getElem_push_lt hlt, Array.getElem_push_lt hlt]
/- A store of a whole block into the newest block. -/
theorem wpList_store_new {P : Program} {ops : Array Oper} {rest : List Oper} {o : Oper} {a : Act} {w : World} {Q : Exit → Act → World → Prop} (hgd : o.guard = none) (ty : TypeId) (x y : Operand) (ho : o.op = .store ty x y)
    (cells : List Value) {t : TypeId} {old : List Value} (hx : a.eval x = .pointer (some ⟨w.heap.size, 0, none⟩)) (hy : a.eval y = .agg cells.toArray) (hi : (P.info? ty).map (·.size) = some cells.length)
    (hold : old.length = cells.length) (h1 : ∀ v ∈ cells, v.oneCell' = true)
    (h : wpList P ops Q rest (a.put o.dst undef) (w.alloc (.cells cells.toArray t))) : wpList P ops Q (o :: rest) a (w.alloc (.cells old.toArray t)) := by
  refine wpList_store_blk hgd ty x y ho w.heap.size cells hx hy (Blk.new w old t) hi hold h1 ?_
  rw [setRow_new]
  exact h
theorem Blk.rowSame {w : World} {g : Nat} {cs : List Value} {t : TypeId} (h : Blk w g cs t) (ds : List Value) : Blk (w.setRow g ds.toArray) g ds t := setRow_heap w g _ _ t (0, 0) h

/- The next token is passed over. -/
theorem PSt.step {E : Env} {w : World} {l : List Tok} {d : Nat} (h : PSt E w l d) (ht : Ends l.tail) : PSt E (w.setCell ⟨E.pb, 1, none⟩ (.int .i64 ((E.ts.length - l.length : Nat) + 1 : Int))) l.tail d := by
  obtain ⟨t, r, rfl⟩ := h.ends.ne
  have h1 := h.le
  have h2 : E.ts.length - r.length = E.ts.length - (t :: r).length + 1 := by simp at h1 ⊢; omega
  refine ⟨by simp at h1 ⊢; omega, ?_, ?_, h.row.same (Below.heap_setCell _ _ _ _ h.ne), h.ne, by simpa [World.setCell] using h.tlt, ht, h.ok, h.len, h.capb, h.deep⟩
  · show r = E.ts.drop (E.ts.length - r.length)
    rw [h2, ← List.tail_drop, ← h.suf]
    rfl
  · show (w.setCell _ _).heap[E.pb]? = _
    simp only [World.setCell, Array.getElem?_modify, if_pos, h.blk, Option.map_some]
    show _ = some (Obj.cells #[_, Value.int .i64 ((E.ts.length - r.length : Nat) : Int), _] _ _)
    rw [h2]
    simp

/- How many blocks are open is changed. -/
theorem PSt.setDepth {E : Env} {w : World} {l : List Tok} {d : Nat} (h : PSt E w l d) (d' : Nat) (hd : d' ≤ 8) : PSt E (w.setCell ⟨E.pb, 2, none⟩ (.int .i64 d')) l d' := by
  refine ⟨h.le, h.suf, ?_, h.row.same (Below.heap_setCell _ _ _ _ h.ne), h.ne, by simpa [World.setCell] using h.tlt, h.ends, h.ok, h.len, h.capb, hd⟩
  simp only [World.setCell, Array.getElem?_modify, if_pos, h.blk, Option.map_some]
  rfl

/- The fault that a method panics with. -/
def faultV (p : Nat) (c : Int) : Value := .iface 60 (.agg #[.int .i64 p, .int .i64 c])

/- What a method comes to: it returns what the plain reader reads, the parser stands behind it; or it panics with the plain reader's fault. V says what value stands for what was read, in the world behind the call, in blocks from a number on. -/
def PPost {α : Type} (V : World → Nat → α → Value → Prop) (E : Env) (w : World) (l : List Tok) (d : Nat) (r : R α) (e : Ending) (w' : World) : Prop :=
  match r with
  | .ok (a, l') => ∃ v, e = .returned v ∧ V w' w.heap.size a v ∧ PSt E w' l' d ∧ l'.length < l.length ∧ Kp E.pb w w'
  | .error (p, c) => e = .panicked [{ v := faultV p c, recovered := false }] ∧ Kp E.pb w w' ∧ (c = 20 ∨ c = 21)

section
variable {α : Type} {V : World → Nat → α → Value → Prop} {E : Env} {w : World} {l : List Tok} {d : Nat} {r : R α} {e : Ending} {w' : World}
theorem PPost.ok (h : PPost V E w l d r e w') {a : α} {l' : List Tok} (hr : r = .ok (a, l')) : ∃ v, e = .returned v ∧ V w' w.heap.size a v ∧ PSt E w' l' d ∧ l'.length < l.length ∧ Kp E.pb w w' := by
  rw [hr] at h; exact h
theorem PPost.err (h : PPost V E w l d r e w') {p : Nat} {c : Int} (hr : r = .error (p, c)) : e = .panicked [{ v := faultV p c, recovered := false }] ∧ Kp E.pb w w' ∧ (c = 20 ∨ c = 21) := by
  rw [hr] at h; exact h
theorem PPost.mk_ok {a : α} {l' : List Tok} {v : Value} (hr : r = .ok (a, l')) (he : e = .returned v) (hv : V w' w.heap.size a v) (hs : PSt E w' l' d) (hl : l'.length < l.length) (hk : Kp E.pb w w') : PPost V E w l d r e w' := by
  rw [hr]; exact ⟨v, he, hv, hs, hl, hk⟩
theorem PPost.mk_err {p : Nat} {c : Int} (hr : r = .error (p, c)) (he : e = .panicked [{ v := faultV p c, recovered := false }]) (hk : Kp E.pb w w') (hc : c = 20 ∨ c = 21) : PPost V E w l d r e w' := by
  rw [hr]; exact ⟨he, hk, hc⟩
end

def VTok (_ : World) (_ : Nat) (t : Tok) (v : Value) : Prop := v = tokV t ∧ TokOK t
def VStr (_ : World) (_ : Nat) (s : ByteArray) (v : Value) : Prop := v = .string s
def VNum (_ : World) (_ : Nat) (n : Int) (v : Value) : Prop := v = .int .i64 n ∧ 0 ≤ n ∧ n ≤ 1099511627776

theorem tail_lt {E : Env} {w : World} {l : List Tok} {d : Nat} (h : PSt E w l d) : l.tail.length < l.length := by
  obtain ⟨t, r, rfl⟩ := h.ends.ne
  simp
end

end Go.Proofs.YtdkdidgeaalcgaaDoor
