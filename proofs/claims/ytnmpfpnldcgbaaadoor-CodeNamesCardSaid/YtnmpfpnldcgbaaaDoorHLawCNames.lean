/- Proved here: for every instruction that lychgatelaw07.CodeNames is called with, one made by hand too, in every memory in which lex's tables stand as the program's text lays them, the call returns true and the instruction reads as before. Conditions: the package-level tables lex.keys, lex.blanks and lex.pairs hold what their initialisers lay (the card ties them to the program's text). -/
import Derived.Test.YtnmpfpnldcgbaaaDoorHNm10
import Derived.Test.YtnmpfpnldcgbaaaDoorP03
import Derived.ProofKit
import Derived.OpenShut
import Derived.SizedLaws
import Derived.Deep.DeepHandedRow
import Derived.Deep.Slices
import Derived.Lib.SmallJoins
namespace Go.Proofs.YtnmpfpnldcgbaaaDoor
open Go.ChangeShapes Go.WideShapes Go.ChangeAt Go.RowKit

theorem nLaidOut : laidOutB Tryd.prog = true := by kernel_rfl
theorem n_trodAll {H : Type} {enc : TypeId × Value → H} {P : Program} (hl : laidOutB P = true) {W W' : World} (hb : Below W.heap.size W W') :
    ∀ (ts : List TypeId) (vs : List Value) (ds : List (DataW H)) (ps : List MemPlace), (∀ t ∈ ts, P.readableRec t = true ∧ t < P.types.size) → DataW.TrodAll enc P W 0 (fun _ => true) true ts vs ds ps → (∀ x ∈ ps, x.block < W.heap.size) →
      DataW.TrodAll enc P W' 0 (fun b => decide (b < W.heap.size)) true ts vs ds ps
  | [], vs, ds, ps, _, h, _ => by
    obtain ⟨rfl, rfl, rfl⟩ := trodAll_nil h
    exact trodAll_mk0
  | t :: ts, vs, ds, ps, hr, h, hlt => by
    obtain ⟨v0, vs0, d0, ds0, p0, q0, rfl, rfl, rfl, h0, r0⟩ := trodAll_cons h
    have h1 := hr t (by simp)
    exact trodAll_cons_mk (Below.trod hl h1.1 h1.2 h0 hb (fun x hx => hlt x (by simp [hx]))) (n_trodAll hl hb ts vs0 ds0 q0 (fun u hu => hr u (by simp [hu])) r0 (fun x hx => hlt x (by simp [hx])))
theorem n_post {H : Type} {enc : TypeId × Value → H} {fn : Func} {sp : ChangeSpec} {W W' : World} {args : Array Value} {ds gs : List (DataW H)} {before : List MemPlace}
    (hr : fn.resultTypes = #[4]) (hvars : sp.vars = []) (hfn : sp.fn H ds = { results := [.lit (.bool true)], args := ds }) (hread : ∀ t ∈ fn.params.toList, Tryd.prog.readableRec t = true ∧ t < Tryd.prog.types.size)
    (hW : DataW.Whole enc Tryd.prog fn.params.toList sp.vars false W args.toList ds gs before) (hb : Below W.heap.size W W') :
    sp.post enc Tryd.prog fn false true false false W args (.bool true) W' := by
  have hW' := hW
  obtain ⟨p, q, hA, hV, rfl, _, _⟩ := hW
  rw [hvars] at hV
  obtain ⟨rfl, rfl⟩ := trodVars_none hV
  have hlt : ∀ x ∈ p, x.block < W.heap.size := fun x hx => hW'.lt x (by simpa using hx)
  refine ⟨_, _, _, [], p, [], hW', ?_, ?_, ?_, World.keptBut_mono (fun x hx => ⟨hx, .inr (.inl (by simpa using hx))⟩) (hb.frame (· ∈ _)), fun h => by cases h⟩
  · rw [List.append_nil, hfn, hr]
    exact trodAll_cons_mk (shut_bool Tryd.underlying4 _) trodAll_mk0
  · rw [List.append_nil, hfn]
    exact n_trodAll nLaidOut hb _ _ _ _ hread hA hlt
  · rw [List.append_nil, hfn, hvars]
    rfl

instance : Inhabited Tm := ⟨tm0⟩
theorem nCellsInstr : Tryd.prog.cellsOf 43 = 11 := by kernel_rfl
theorem nCellsTerm : Tryd.prog.cellsOf 40 = 2 := by kernel_rfl
theorem nBytesTerm : Tryd.prog.bytesOf 40 = 24 := by kernel_rfl
theorem nCellsOp : Tryd.prog.cellsOf 38 = 1 := by kernel_rfl
theorem nCellsInt : Tryd.prog.cellsOf 3 = 1 := by kernel_rfl
theorem nCellsI64 : Tryd.prog.cellsOf 2 = 1 := by kernel_rfl
theorem nCellsStr : Tryd.prog.cellsOf 9 = 1 := by kernel_rfl
theorem nCellsBool : Tryd.prog.cellsOf 4 = 1 := by kernel_rfl
theorem nCellsTerms : Tryd.prog.cellsOf 41 = 1 := by kernel_rfl
theorem n_two {cs : List Value} (h : cs.length = 2) : ∃ a b, cs = [a, b] := by
  match cs, h with
  | [a, b], _ => exact ⟨a, b, rfl⟩
theorem n_eleven {cs : List Value} (h : cs.length = 11) : ∃ a0 a1 a2 a3 a4 a5 a6 a7 a8 a9 a10, cs = [a0, a1, a2, a3, a4, a5, a6, a7, a8, a9, a10] := by
  match cs, h with
  | [a0, a1, a2, a3, a4, a5, a6, a7, a8, a9, a10], _ => exact ⟨a0, a1, a2, a3, a4, a5, a6, a7, a8, a9, a10, rfl⟩
theorem n_term {H : Type} {enc : TypeId × Value → H} {W : World} {base fuel : Nat} {sp : Nat → Bool} {held : Bool} {cs : List Value} {x : DataW H × List MemPlace} (h : DataW.trod enc Tryd.prog W base sp held fuel 40 cs = some x) :
    ∃ t : Tm, cs = [.string t.name, .int .i64 t.num] := by
  obtain ⟨xs, n, _, _, hcl, hxl, hf⟩ := DataW.trod_struct Tryd.underlying40 h
  rw [nCellsTerm] at hcl
  obtain ⟨a, b, rfl⟩ := n_two hcl
  have h0 := hf 0 _ rfl
  have h1 := hf 1 _ rfl
  rw [List.getElem?_eq_getElem (show 0 < xs.length by rw [hxl]; decide)] at h0
  rw [List.getElem?_eq_getElem (show 1 < xs.length by rw [hxl]; decide)] at h1
  change DataW.trod enc Tryd.prog W base sp held n 9 (List.take (Tryd.prog.cellsOf 9) (List.drop 0 [a, b])) = _ at h0
  change DataW.trod enc Tryd.prog W base sp held n 2 (List.take (Tryd.prog.cellsOf 2) (List.drop 1 [a, b])) = _ at h1
  rw [nCellsStr] at h0
  rw [nCellsI64] at h1
  obtain ⟨x, e0, _, _⟩ := DataW.trod_string Tryd.underlying9 h0
  obtain ⟨y, e1, _, _⟩ := DataW.trod_int Tryd.underlying2 h1
  simp at e0 e1
  exact ⟨⟨x, y⟩, by rw [e0, e1]⟩
theorem n_terms {H : Type} {enc : TypeId × Value → H} {W : World} {fuel : Nat} {cs : List Value} {x : DataW H × List MemPlace} (h : DataW.trod enc Tryd.prog W 0 (fun _ => true) true fuel 41 cs = some x) :
    ∃ A cap ts, cs = [.slice A ts.length cap] ∧ TmsAt W W.heap.size A ts ∧ (ts.length = 0 ∨ ∃ es sp, x.1 = .slice es sp ∧ ts.length ≤ es.length + sp.length) := by
  rcases Deep.open_slice Tryd.underlying41 h with ⟨hcs, _⟩ | ⟨a, len, cap, m, n, D, Pl, hcs, _, hl, hm, hmm, hx, hel⟩
  · exact ⟨none, 0, [], hcs, fun h => absurd h (by simp), .inl rfl⟩
  · simp only [if_true] at hmm
    subst hmm
    subst hx
    have hex : ∀ i, i < len → ∃ t : Tm, ∀ q u, [Value.string t.name, .int .i64 t.num][q]? = some u → W.cell? (a.add (i * 2 + q)) = some u := fun i hi => by
      obtain ⟨cs', h1, h2⟩ := hel i (by omega)
      obtain ⟨t, rfl⟩ := n_term h2
      refine ⟨t, fun q u hq => ?_⟩
      obtain ⟨_, _, hc⟩ := World.cells?_some h1
      have hql : q < 2 := by have := (List.getElem?_eq_some_iff.1 hq).1; simpa using this
      have h3 := hc q (by rw [nCellsTerm]; exact hql)
      rw [nCellsTerm, Deep.add_add, hq] at h3
      exact h3
    obtain ⟨fn, hfn⟩ := Deep.choose_lt (α := Tm) hex
    refine ⟨some a, m, (List.range len).map fn, by simpa using hcs, fun hn => ?_, .inr ⟨_, _, rfl, by simp⟩⟩
    simp only [List.length_map, List.length_range] at hn
    obtain ⟨b, off, spot⟩ := a
    have hspot : spot = none := by simpa [Addr.add] using World.cell?_spot (hfn 0 hn 0 _ rfl)
    subst hspot
    have h0 := hfn 0 hn 0 _ rfl
    refine ⟨b, off, rfl, ?_, fun i t ht => ?_⟩
    · rw [nm_add] at h0
      rcases Nat.lt_or_ge b W.heap.size with hlt | hge
      · exact hlt
      · simp [World.cell?, Array.getElem?_eq_none hge] at h0
    · have hi : i < len := by have := (List.getElem?_eq_some_iff.1 ht).1; simpa using this
      rw [List.getElem?_map, List.getElem?_range hi] at ht
      cases ht
      have c0 := hfn i hi 0 _ rfl
      have c1 := hfn i hi 1 _ rfl
      rw [nm_add] at c0 c1
      exact ⟨c0, c1⟩
set_option maxRecDepth 100000 in
theorem open_instr {H : Type} {enc : TypeId × Value → H} {W : World} {base : Nat} {v : Value} {d : DataW H} {p : List MemPlace} {ts : List TypeId} {ds : List (DataW H)} (hval : Value.okWide Tryd.prog W .any base 43 v)
    (h : DataW.Trod enc Tryd.prog W 0 (fun _ => true) true 43 v d p) (hz : (DataW.weightsEach Tryd.prog ts ds).all (· ≤ reachBytes) = true) (ht0 : ts[0]? = some 43) (hd0 : ds[0]? = some d) :
    ∃ (op pl : Int) (x y an bn : ByteArray) (am bm : Int) (A : Option Addr) (cap : Nat) (tt : Int) (has : Bool) (us : List Tm),
      v = .agg #[.int .i64 op, .int .i64 pl, .string x, .string y, .string an, .int .i64 am, .string bn, .int .i64 bm, .slice A us.length cap, .int .i64 tt, .bool has] ∧ TmsAt W W.heap.size A us ∧ (us.length + 2) * 24 ≤ 140737488355328 := by
  obtain ⟨cs, rfl, _⟩ := okWide_struct Tryd.underlying43 hval
  obtain ⟨fuel, hf⟩ := h
  obtain ⟨xs, n, _, hx, hcl, hxl, hfd⟩ := DataW.trod_struct Tryd.underlying43 hf
  obtain ⟨l⟩ := cs
  rw [nCellsInstr] at hcl
  change l.length = 11 at hcl
  obtain ⟨a0, a1, a2, a3, a4, a5, a6, a7, a8, a9, a10, rfl⟩ := n_eleven hcl
  have h0 := hfd 0 _ rfl
  have l0 : 0 < xs.length := by rw [hxl]; decide
  rw [List.getElem?_eq_getElem l0] at h0
  change DataW.trod enc Tryd.prog W 0 _ true n 38 (List.take (Tryd.prog.cellsOf 38) (List.drop 0 [a0, a1, a2, a3, a4, a5, a6, a7, a8, a9, a10])) = _ at h0
  rw [nCellsOp] at h0
  obtain ⟨z0, e0, _, _⟩ := DataW.trod_int Tryd.underlying38 h0
  have h1 := hfd 1 _ rfl
  have l1 : 1 < xs.length := by rw [hxl]; decide
  rw [List.getElem?_eq_getElem l1] at h1
  change DataW.trod enc Tryd.prog W 0 _ true n 3 (List.take (Tryd.prog.cellsOf 3) (List.drop 1 [a0, a1, a2, a3, a4, a5, a6, a7, a8, a9, a10])) = _ at h1
  rw [nCellsInt] at h1
  obtain ⟨z1, e1, _, _⟩ := DataW.trod_int Tryd.underlying3 h1
  have h2 := hfd 2 _ rfl
  have l2 : 2 < xs.length := by rw [hxl]; decide
  rw [List.getElem?_eq_getElem l2] at h2
  change DataW.trod enc Tryd.prog W 0 _ true n 9 (List.take (Tryd.prog.cellsOf 9) (List.drop 2 [a0, a1, a2, a3, a4, a5, a6, a7, a8, a9, a10])) = _ at h2
  rw [nCellsStr] at h2
  obtain ⟨z2, e2, _, _⟩ := DataW.trod_string Tryd.underlying9 h2
  have h3 := hfd 3 _ rfl
  have l3 : 3 < xs.length := by rw [hxl]; decide
  rw [List.getElem?_eq_getElem l3] at h3
  change DataW.trod enc Tryd.prog W 0 _ true n 9 (List.take (Tryd.prog.cellsOf 9) (List.drop 3 [a0, a1, a2, a3, a4, a5, a6, a7, a8, a9, a10])) = _ at h3
  rw [nCellsStr] at h3
  obtain ⟨z3, e3, _, _⟩ := DataW.trod_string Tryd.underlying9 h3
  have h4 := hfd 4 _ rfl
  have l4 : 4 < xs.length := by rw [hxl]; decide
  rw [List.getElem?_eq_getElem l4] at h4
  change DataW.trod enc Tryd.prog W 0 _ true n 40 (List.take (Tryd.prog.cellsOf 40) (List.drop 4 [a0, a1, a2, a3, a4, a5, a6, a7, a8, a9, a10])) = _ at h4
  rw [nCellsTerm] at h4
  obtain ⟨z4, e4⟩ := n_term h4
  have h5 := hfd 5 _ rfl
  have l5 : 5 < xs.length := by rw [hxl]; decide
  rw [List.getElem?_eq_getElem l5] at h5
  change DataW.trod enc Tryd.prog W 0 _ true n 40 (List.take (Tryd.prog.cellsOf 40) (List.drop 6 [a0, a1, a2, a3, a4, a5, a6, a7, a8, a9, a10])) = _ at h5
  rw [nCellsTerm] at h5
  obtain ⟨z5, e5⟩ := n_term h5
  have h6 := hfd 6 _ rfl
  have l6 : 6 < xs.length := by rw [hxl]; decide
  rw [List.getElem?_eq_getElem l6] at h6
  change DataW.trod enc Tryd.prog W 0 _ true n 41 (List.take (Tryd.prog.cellsOf 41) (List.drop 8 [a0, a1, a2, a3, a4, a5, a6, a7, a8, a9, a10])) = _ at h6
  rw [nCellsTerms] at h6
  obtain ⟨A, cap, us, e6, hT, hsz⟩ := n_terms h6
  have h7 := hfd 7 _ rfl
  have l7 : 7 < xs.length := by rw [hxl]; decide
  rw [List.getElem?_eq_getElem l7] at h7
  change DataW.trod enc Tryd.prog W 0 _ true n 3 (List.take (Tryd.prog.cellsOf 3) (List.drop 9 [a0, a1, a2, a3, a4, a5, a6, a7, a8, a9, a10])) = _ at h7
  rw [nCellsInt] at h7
  obtain ⟨z7, e7, _, _⟩ := DataW.trod_int Tryd.underlying3 h7
  have h8 := hfd 8 _ rfl
  have l8 : 8 < xs.length := by rw [hxl]; decide
  rw [List.getElem?_eq_getElem l8] at h8
  change DataW.trod enc Tryd.prog W 0 _ true n 4 (List.take (Tryd.prog.cellsOf 4) (List.drop 10 [a0, a1, a2, a3, a4, a5, a6, a7, a8, a9, a10])) = _ at h8
  rw [nCellsBool] at h8
  obtain ⟨z8, e8, _⟩ := DataW.trod_bool Tryd.underlying4 h8
  simp at e0 e1 e2 e3 e4 e5 e6 e7 e8
  obtain ⟨e40, e41⟩ := e4
  obtain ⟨e50, e51⟩ := e5
  have hd : d = .agg (xs.map (·.1)) := congrArg Prod.fst hx
  refine ⟨z0, z1, z2, z3, z4.name, z5.name, z4.num, z5.num, A, cap, z7, z8, us, by rw [e0, e1, e2, e3, e40, e41, e50, e51, e6, e7, e8], hT, ?_⟩
  rcases hsz with h0 | ⟨es, sp, he, hle⟩
  · omega
  · have hw := List.all_eq_true.1 hz _ (DataW.weights_mem_each ht0 hd0 ((es.length + sp.length) * Tryd.prog.bytesOf 40) (by
      rw [hd]
      simp only [DataW.weights, Tryd.underlying43]
      refine DataW.weights_mem_each (j := 6) (t := 41) (d := .slice es sp) rfl ?_ _ (by simp [DataW.weights, Tryd.underlying41])
      rw [List.getElem?_map, List.getElem?_eq_getElem l6]
      exact congrArg some he))
    rw [nBytesTerm] at hw
    have hw2 : (es.length + sp.length) * 24 ≤ reachBytes := by simpa using hw
    have hr : reachBytes = 140737488351232 := rfl
    omega
set_option maxRecDepth 100000 in
theorem laid_met_instr (os : Os) : laidMet Tryd.prog laid3 ((laidWorld os).forCall (fun _ _ => 0) ⟨#[], #[.agg #[.int .i64 0, .int .i64 0, .string ⟨#[]⟩, .string ⟨#[]⟩, .string ⟨#[]⟩, .int .i64 0, .string ⟨#[]⟩, .int .i64 0, .slice none 0 0, .int .i64 0, .bool false]], []⟩).memory :=
  laidMet_of_run' 8 (by kernel_rfl) (by kernel_rfl)
set_option maxRecDepth 100000 in
theorem instr_contract {H : Type} {enc : TypeId × Value → H} {f : FuncId} {fn : Func} {sp : ChangeSpec} {ts : List TypeId} (hp : fn.params = #[43]) (hr : fn.resultTypes = #[4]) (hvars : sp.vars = [])
    (hfn : ∀ d : DataW H, sp.fn H [d] = { results := [.lit (.bool true)], args := [d] })
    (walk : ∀ (op pl : Int) (x y an bn : ByteArray) (am bm : Int) (A : Option Addr) (cap : Nat) (tt : Int) (has : Bool) (us : List Tm) (w : World), TmsAt w w.heap.size A us → (us.length + 2) * 24 ≤ 140737488355328 → Tabs w →
      Calls Tryd.prog f #[.agg #[.int .i64 op, .int .i64 pl, .string x, .string y, .string an, .int .i64 am, .string bn, .int .i64 bm, .slice A us.length cap, .int .i64 tt, .bool has]] w fun e w' => e = .returned (.bool true) ∧ Below w.heap.size w w')
    (W : World) (base : Nat) (args : Array Value) (ds gs : List (DataW H)) (before : List MemPlace)
    (hval : ∀ (j : Nat) t v, fn.params[j]? = some t → args[j]? = some v → Value.okWide Tryd.prog W .any base t v)
    (hW : DataW.Whole enc Tryd.prog fn.params.toList sp.vars false W args.toList ds gs before) (hreach : (DataW.weightsEach Tryd.prog (fn.params.toList ++ ts) (ds ++ gs)).all (· ≤ reachBytes) = true) (hL : laidMetH Tryd.prog laid3 W) :
    Calls Tryd.prog f args W fun e W' => ∃ v, e = .returned v ∧ sp.post enc Tryd.prog fn false true false false W args v W' := by
  have hW' := hW
  obtain ⟨p, q, hA0, hV, rfl, hfz, hnd⟩ := hW
  rw [hvars] at hV
  have hA : DataW.TrodAll enc Tryd.prog W 0 (fun _ => true) true fn.params.toList args.toList ds p := hA0
  rw [hp] at hA hval hreach
  obtain ⟨v0, vs0, d0, ds0, p0, q0, hargs, rfl, rfl, h0, r0⟩ := trodAll_cons hA
  obtain ⟨rfl, rfl, rfl⟩ := trodAll_nil r0
  obtain rfl : args = #[v0] := by cases args; simp_all
  obtain ⟨rfl, rfl⟩ := trodVars_none hV
  obtain ⟨op, pl, x, y, an, bn, am, bm, A, cap, tt, has, us, rfl, hT, hb⟩ := open_instr (hval 0 43 v0 (by simp) (by simp)) h0 hreach rfl rfl
  clear hA0
  refine (walk op pl x y an bn am bm A cap tt has us W hT hb (tabs_of_laid hL)).mono fun e W' ⟨he, hb⟩ => ⟨_, he, ?_⟩
  refine n_post hr hvars (hfn _) ?_ hW' hb
  rw [hp]
  intro t ht
  obtain rfl : t = 43 := by simpa using ht
  exact ⟨by kernel_rfl, of_decide_eq_true (by kernel_rfl)⟩
theorem codeNames_walk (op pl : Int) (x y an bn : ByteArray) (am bm : Int) (A : Option Addr) (cap : Nat) (tt : Int) (has : Bool) (us : List Tm) (w : World) (hT : TmsAt w w.heap.size A us) (hb : (us.length + 2) * 24 ≤ 140737488355328) (ht : Tabs w) :
    Calls Tryd.prog 4 #[.agg #[.int .i64 op, .int .i64 pl, .string x, .string y, .string an, .int .i64 am, .string bn, .int .i64 bm, .slice A us.length cap, .int .i64 tt, .bool has]] w fun e w' => e = .returned (.bool true) ∧ Below w.heap.size w w' :=
  codeNames_walk0 hT hb ht

theorem codeNames_reads (os : Os) {H : Type} (enc : TypeId × Value → H) : ∃ places, DataW.whole enc Tryd.prog ((laidWorld os).forCall (fun _ _ => 0) ⟨#[], #[.agg #[.int .i64 0, .int .i64 0, .string ⟨#[]⟩, .string ⟨#[]⟩, .string ⟨#[]⟩, .int .i64 0, .string ⟨#[]⟩, .int .i64 0, .slice none 0 0, .int .i64 0, .bool false]], []⟩).memory Tryd.f4.params.toList Rows.codeNamesSpec.vars false #[(.agg #[.int .i64 0, .int .i64 0, .string ⟨#[]⟩, .string ⟨#[]⟩, .string ⟨#[]⟩, .int .i64 0, .string ⟨#[]⟩, .int .i64 0, .slice none 0 0, .int .i64 0, .bool false] : Value)].toList 8 = some ([.agg [.lit (.int .i64 0), .lit (.int .i64 0), .lit (.string []), .lit (.string []), .agg [.lit (.string []), .lit (.int .i64 0)], .agg [.lit (.string []), .lit (.int .i64 0)], .nil, .lit (.int .i64 0), .lit (.bool false)]], [], places) :=
  ⟨[], by kernel_rfl⟩

set_option maxRecDepth 100000 in
theorem codeNames_lifted (os : Os) (started : os.Started) (H : Type) (enc : TypeId × Value → H) (F : Stop.Interp) :
    ReturnsInHanded {} Tryd.checked os 4 .any ((OpenSpec.ofChange Rows.codeNamesSpec).preRow enc Tryd.prog Tryd.f4 Rows.codeNamesRow.domain false Rows.codeNamesRow.laid) (((OpenSpec.ofChange Rows.codeNamesSpec).at F).post enc Tryd.prog Tryd.f4 false true false false) := by
  obtain ⟨places, hx⟩ := codeNames_reads os enc
  refine returnsInHanded_of_row (C := Tryd.checked) (s := OpenSpec.ofChange Rows.codeNamesSpec) own started (by kernel_rfl) Tryd.func4
    (witness_row_at (enc := enc) (C := Tryd.checked) false (laidWorld os) #[.agg #[.int .i64 0, .int .i64 0, .string ⟨#[]⟩, .string ⟨#[]⟩, .string ⟨#[]⟩, .int .i64 0, .string ⟨#[]⟩, .int .i64 0, .slice none 0 0, .int .i64 0, .bool false]] rfl (by kernel_rfl) (by kernel_rfl) (by kernel_rfl)
      (OpenSpec.preRow_of_cond 8 hx (by kernel_rfl) (fun k hk => by cases hk) (by kernel_rfl) (laid_met_instr os))) ?_
  intro W base args ds gs before hval hW _ _ hreach hL _ _
  exact instr_contract Tryd.params4 (by kernel_rfl) rfl (fun _ => rfl) codeNames_walk W base args ds gs before hval hW hreach hL

theorem codeNames_said : Rows.CodeNamesSaid :=
  OpenClaim.holds_of_cond 4 Tryd.f4 rfl rfl rfl rfl rfl rfl rfl ⟨rfl, rfl, rfl, rfl, rfl⟩ rfl rfl rfl rfl rfl (by kernel_rfl) Tryd.func4 (by kernel_rfl)
    (of_decide_eq_true (by kernel_rfl)) (by unfold Func.isWrapper; first | (rw [if_pos (by decide +kernel)]; kernel_rfl) | (rw [if_neg (by decide +kernel)]; exact ⟨rfl, rfl⟩))
    (fun os started H enc _ F => by rw [OpenClaim.pre_eq_preRow]; exact codeNames_lifted os started H enc F)

theorem codeNames_plain (f : FuncId) (fn : Func) (hf : Tryd.pinned.checked.prog.funcNamed "lychgate/lychgatelaw07.CodeNames" = some f) (hfn : Tryd.pinned.checked.prog.funcs[f]? = some fn) :
    true = Tryd.pinned.checked.prog.looks [] ∧ ∀ (j : Nat) t, fn.params[j]? = some t → Tryd.pinned.checked.prog.wantsStandIn t = false := by
  obtain rfl : f = 4 := Option.some.inj ((show Tryd.prog.funcNamed "lychgate/lychgatelaw07.CodeNames" = some 4 by kernel_rfl).symm.trans hf) |>.symm
  obtain rfl : fn = Tryd.f4 := (Option.some.inj (Tryd.func4.symm.trans hfn)).symm
  refine ⟨by kernel_rfl, fun j t ht => ?_⟩
  rw [Tryd.params4] at ht
  obtain rfl : t = 43 := by simpa using Array.mem_of_getElem? ht
  exact (show Tryd.prog.wantsStandIn 43 = false by kernel_rfl)

theorem codeNames_card : Rows.CodeNamesCardSaid :=
  Claim7.holds_tied_plain_at .later [] _ _ _ _ codeNames_said (fun _ h => by cases h) (by kernel_rfl) (fun _ h => by cases h) codeNames_row_tie rfl ⟨rfl, rfl⟩ (by kernel_rfl) rfl codeNames_plain (by kernel_rfl)

end Go.Proofs.YtnmpfpnldcgbaaaDoor
