/- What the rows' list of package-level variables gives the walks: a world that meets it holds the tables of lex (Tabs). And the world of the witness, which meets it. -/
import Derived.Test.YtflhniiemmahmaaDoorCards
import Derived.Test.YtflhniiemmahmaaDoorTie
import Derived.Test.YtflhniiemmahmaaDoorTokens
import Derived.ProofKit
import Derived.OpenShut
import Derived.Deep.DeepHandedRow
import Derived.Lib.LaidTab
namespace Go.Proofs.YtflhniiemmahmaaDoor
open Go.ChangeShapes Go.WideShapes Go.ChangeAt Go.ChangeMaps Go.RowKit

theorem own : ownKnob Tryd.prog.godebug = none := by kernel_rfl
theorem gKeys : Tryd.prog.globalNamed "lychgate/lex.keys" = some 2 := by kernel_rfl
theorem gBlanks : Tryd.prog.globalNamed "lychgate/lex.blanks" = some 0 := by kernel_rfl
theorem gPairs : Tryd.prog.globalNamed "lychgate/lex.pairs" = some 1 := by kernel_rfl
theorem tKeys : (Tryd.prog.globals[2]?).map (·.type) = some 93 := by kernel_rfl
theorem tBlanks : (Tryd.prog.globals[0]?).map (·.type) = some 67 := by kernel_rfl
theorem tPairs : (Tryd.prog.globals[1]?).map (·.type) = some 85 := by kernel_rfl
theorem cString : Tryd.prog.cellsOf 9 = 1 := by kernel_rfl
theorem cByte : Tryd.prog.cellsOf 5 = 1 := by kernel_rfl
theorem cBlanks : Tryd.prog.cellsOf 67 = 2 := by kernel_rfl

theorem bytes_of (s : ByteArray) : s = ⟨s.data.toList.toArray⟩ := by
  obtain ⟨d⟩ := s
  simp

/- An array of texts that reads as a list of texts holds them, cell for cell. -/
theorem cells_of_strs {H : Type} {enc : TypeId × Value → H} {P : Program} {w : World} {base : Nat} {sp : Nat → Bool} {held : Bool} {fuel : Nat} {t e : TypeId} {n : Nat} {cs : List Value} {ls : List (List UInt8)} {p : List MemPlace}
    (ht : P.underlying t = some (.array n e)) (he : P.underlying e = some .string) (hce : P.cellsOf e = 1)
    (h : DataW.trod enc P w base sp held fuel t cs = some (.agg (ls.map fun l => .lit (.string l)), p)) (i : Nat) (hi : i < n) : cs[i]? = some (.string ⟨(ls.getD i []).toArray⟩) := by
  obtain ⟨xs, m, _, hx, _, hxl, hel⟩ := DataW.trod_array ht h
  simp only [Prod.mk.injEq, DataW.agg.injEq] at hx
  have h1 := hel i hi
  rw [hce, Nat.mul_one, List.getElem?_eq_getElem (by omega)] at h1
  obtain ⟨s, hc, hy, _⟩ := DataW.trod_string he h1
  have h2 : cs[i]? = some (.string s) := by
    have := congrArg (·[0]?) hc
    simpa [List.getElem?_take, List.getElem?_drop] using this
  have h3 : (ls.map fun l => (DataW.lit (.string l) : DataW H))[i]? = some (.lit (.string s.data.toList)) := by
    rw [hx.1, List.getElem?_map, List.getElem?_eq_getElem (by omega), hy]
    rfl
  rw [List.getElem?_map, Option.map_eq_some_iff] at h3
  obtain ⟨l, hl, hs⟩ := h3
  simp only [DataW.lit.injEq, Lit.string.injEq] at hs
  rw [h2, List.getD_eq_getElem?_getD, hl, Option.getD_some, hs, ← bytes_of]

theorem cell_lt {w : World} {b o : Nat} {v : Value} (h : w.cell? ⟨b, o, none⟩ = some v) : b < w.heap.size := by
  rcases Nat.lt_or_ge b w.heap.size with hlt | hge
  · exact hlt
  · simp [World.cell?, Array.getElem?_eq_none hge] at h

/- The list that all rows of this seat bear. -/
def laid3 : List (String × DataW Unit) := [("lychgate/lex.keys", Rows.laid_lychgate_lex_keys), ("lychgate/lex.blanks", Rows.laid_lychgate_lex_blanks), ("lychgate/lex.pairs", Rows.laid_lychgate_lex_pairs)]

theorem tabs_of_laid {W : World} (h : laidMetH Tryd.prog laid3 W) : Tabs W := by
  rw [MakeChecks.laidMetH_plain _ _ _ (by kernel_rfl)] at h
  obtain ⟨ps, ⟨g0, t0, cs0, f0, p0, q0, hg0, ht0, hv0, hd0, ⟨g1, t1, cs1, f1, p1, q1, hg1, ht1, hv1, hd1, ⟨g2, t2, cs2, f2, p2, q2, hg2, ht2, hv2, hd2, _, _⟩, _⟩, _⟩, _, _⟩ := h
  obtain rfl := Option.some.inj (gKeys.symm.trans hg0)
  obtain rfl := Option.some.inj (gBlanks.symm.trans hg1)
  obtain rfl := Option.some.inj (gPairs.symm.trans hg2)
  obtain rfl := Option.some.inj (tKeys.symm.trans ht0)
  obtain rfl := Option.some.inj (tBlanks.symm.trans ht1)
  obtain rfl := Option.some.inj (tPairs.symm.trans ht2)
  have hk : ∀ i, i < 20 → W.cell? ⟨2, i, none⟩ = some (.string (keyAt i)) := fun i hi => by
    have h1 := World.var?_cell hg0 hv0 i
    have h2 := cells_of_strs (ls := keyList) Tryd.underlying93 Tryd.underlying9 cString hd0 i hi
    rw [h1, ← Array.getElem?_toList, h2]
    rfl
  have hp : ∀ i, i < 3 → W.cell? ⟨1, i, none⟩ = some (.string (pairAt i)) := fun i hi => by
    have h1 := World.var?_cell hg2 hv2 i
    have h2 := cells_of_strs (ls := [[45, 62], [60, 61], [61, 61]]) Tryd.underlying85 Tryd.underlying9 cString hd2 i hi
    rw [h1, ← Array.getElem?_toList, h2]
    rfl
  have hb := Lib.cells_of_tab (zs := [32, 10]) Tryd.underlying67 Tryd.underlying5 cByte cBlanks hd1
  have hb' : ∀ i : Nat, W.cell? ⟨0, i, none⟩ = ([32, 10].map fun z => Value.int .u8 z)[i]? := fun i => by
    rw [World.var?_cell hg1 hv1 i, ← Array.getElem?_toList, hb]
  exact ⟨hb' 0, hb' 1, hk, hp, cell_lt (hb' 0), cell_lt (hk 0 (by omega)), cell_lt (hp 0 (by omega))⟩

/- A world for the witness: the settled one, the tables holding what their initialisers lay. -/
def laying (cs : Array Value) : Obj → Obj
  | .cells _ t frozen => .cells cs t frozen
  | o => o
noncomputable def laidWorld (os : Os) : World :=
  { World.holding Tryd.prog os ⟨#[], #[], []⟩ with heap := (((World.holding Tryd.prog os ⟨#[], #[], []⟩).heap.modify 0 (laying #[.int .u8 32, .int .u8 10])).modify 2 (laying keyVals.toArray)).modify 1 (laying pairVals.toArray) }

/- What a law's row asks behind the call: the answer true, the text as it was, nothing else changed. -/
theorem post_text {H : Type} {enc : TypeId × Value → H} {fn : Func} {sp : ChangeSpec} {W W' : World} {s : ByteArray} {before : List MemPlace}
    (hp : fn.params.toList = [9]) (hr : fn.resultTypes = #[4]) (hvars : sp.vars = []) (hfn : sp.fn H [.lit (.string s.data.toList)] = { results := [.lit (.bool true)], args := [.lit (.string s.data.toList)] }) (hs : s.size ≤ maxLen)
    (hW : DataW.Whole enc Tryd.prog fn.params.toList sp.vars false W [.string s] [.lit (.string s.data.toList)] [] before) (hb : Below W.heap.size W W') :
    sp.post enc Tryd.prog fn false true false false W #[.string s] (.bool true) W' := by
  refine ⟨_, _, before, [], [], [], hW, ?_, ?_, ?_, hb.frame _, fun h => by cases h⟩
  · rw [List.append_nil, hfn, hr]
    exact trodAll_cons_mk (shut_bool Tryd.underlying4 _) trodAll_mk0
  · rw [List.append_nil, hfn, hp]
    exact trodAll_cons_mk (shut_string Tryd.underlying9 hs) trodAll_mk0
  · rw [List.append_nil, hfn, hvars]
    rfl

/- From the walk of a law of one text to what its row asks of a call. -/
set_option maxRecDepth 100000 in
theorem text_contract {H : Type} {enc : TypeId × Value → H} {f : FuncId} {fn : Func} {sp : ChangeSpec} (hp : fn.params = #[9]) (hr : fn.resultTypes = #[4]) (hvars : sp.vars = [])
    (hfn : ∀ d : DataW H, sp.fn H [d] = { results := [.lit (.bool true)], args := [d] })
    (walk : ∀ (s : ByteArray) (w : World), s.size ≤ maxLen → Tabs w → Calls Tryd.prog f #[.string s] w fun e w' => e = .returned (.bool true) ∧ Below w.heap.size w w')
    (W : World) (base : Nat) (args : Array Value) (ds gs : List (DataW H)) (before : List MemPlace)
    (hval : ∀ (j : Nat) t v, fn.params[j]? = some t → args[j]? = some v → Value.okWide Tryd.prog W .any base t v)
    (hW : DataW.Whole enc Tryd.prog fn.params.toList sp.vars false W args.toList ds gs before) (hL : laidMetH Tryd.prog laid3 W) :
    Calls Tryd.prog f args W fun e W' => ∃ v, e = .returned v ∧ sp.post enc Tryd.prog fn false true false false W args v W' := by
  have hW' := hW
  obtain ⟨p, q, hA0, hV, rfl, hfz, hnd⟩ := hW
  rw [hvars] at hV
  have hA : DataW.TrodAll enc Tryd.prog W 0 (fun _ => true) true fn.params.toList args.toList ds p := hA0
  rw [hp] at hA hval
  obtain ⟨v0, vs0, d0, ds0, p0, q0, hargs, rfl, rfl, h0, r0⟩ := trodAll_cons hA
  obtain ⟨rfl, rfl, rfl⟩ := trodAll_nil r0
  obtain rfl : args = #[v0] := by cases args; simp_all
  obtain ⟨rfl, rfl⟩ := trodVars_none hV
  obtain ⟨s, rfl, rfl, rfl, hs⟩ := open_string Tryd.underlying9 (hval 0 9 v0 (by simp) (by simp)) h0
  clear hA0
  refine (walk s W hs (tabs_of_laid hL)).mono fun e W' ⟨he, hb⟩ => ⟨_, he, ?_⟩
  exact post_text (by rw [hp]) hr hvars (hfn _) hs hW' hb

theorem laid_met_text (os : Os) : laidMet Tryd.prog laid3 ((laidWorld os).forCall (fun _ _ => 0) ⟨#[], #[.string ⟨#[]⟩], []⟩).memory :=
  laidMet_of_run' 8 (by kernel_rfl) (by kernel_rfl)

end Go.Proofs.YtflhniiemmahmaaDoor
