/- The opening of a Comparison; from the walk of a law of a Comparison (and two numbers) to what its row asks of a call. -/
import Derived.Test.YtdkdidgeaalcgaaDoorP04
import Derived.ProofKit
import Derived.OpenShut
import Derived.SizedLaws
import Derived.Deep.DeepHandedRow
import Derived.Deep.Slices
import Derived.Lib.SmallJoins
namespace Go.Proofs.YtdkdidgeaalcgaaDoor
open Go.ChangeShapes Go.WideShapes Go.ChangeAt Go.RowKit

theorem nLaidOut : laidOutB Tryd.prog = true := by kernel_rfl
theorem n_trodAll {H : Type} {enc : TypeId × Value → H} {P : Program} (hl : laidOutB P = true) {W W' : World} (hb : Below W.heap.size W W') :
    ∀ (ts : List TypeId) (vs : List Value) (ds : List (DataW H)) (ps : List MemPlace), (∀ t ∈ ts, P.readableRec t = true ∧ t < P.types.size) → DataW.TrodAll enc P W 0 (fun _ => true) true ts vs ds ps → (∀ x ∈ ps, x.block < W.heap.size) →
      DataW.TrodAll enc P W' 0 (fun b => decide (b < W.heap.size)) true ts vs ds ps
  | [], vs, ds, ps, _, h, _ => by
    obtain ⟨rfl, rfl, rfl⟩ := trodAll_nil h
    exact trodAll_mk0
  | t :: ts, vs, ds, ps, hr, h, hlt => by
    obtain ⟨v0, vs0, d0, ds0, p0, q0, rfl, rfl, rfl, h0, r0⟩ := trodAll_cons h
    have h1 := hr t (by simp)
    exact trodAll_cons_mk (Below.trod hl h1.1 h1.2 h0 hb (fun x hx => hlt x (by simp [hx]))) (n_trodAll hl hb ts vs0 ds0 q0 (fun u hu => hr u (by simp [hu])) r0 (fun x hx => hlt x (by simp [hx])))
theorem n_post {H : Type} {enc : TypeId × Value → H} {fn : Func} {sp : ChangeSpec} {W W' : World} {args : Array Value} {ds gs : List (DataW H)} {before : List MemPlace}
    (hr : fn.resultTypes = #[4]) (hvars : sp.vars = []) (hfn : sp.fn H ds = { results := [.lit (.bool true)], args := ds }) (hread : ∀ t ∈ fn.params.toList, Tryd.prog.readableRec t = true ∧ t < Tryd.prog.types.size)
    (hW : DataW.Whole enc Tryd.prog fn.params.toList sp.vars false W args.toList ds gs before) (hb : Below W.heap.size W W') :
    sp.post enc Tryd.prog fn false true false false W args (.bool true) W' := by
  have hW' := hW
  obtain ⟨p, q, hA, hV, rfl, _, _⟩ := hW
  rw [hvars] at hV
  obtain ⟨rfl, rfl⟩ := trodVars_none hV
  have hlt : ∀ x ∈ p, x.block < W.heap.size := fun x hx => hW'.lt x (by simpa using hx)
  refine ⟨_, _, _, [], p, [], hW', ?_, ?_, ?_, World.keptBut_mono (fun x hx => ⟨hx, .inr (.inl (by simpa using hx))⟩) (hb.frame (· ∈ _)), fun h => by cases h⟩
  · rw [List.append_nil, hfn, hr]
    exact trodAll_cons_mk (shut_bool Tryd.underlying4 _) trodAll_mk0
  · rw [List.append_nil, hfn]
    exact n_trodAll nLaidOut hb _ _ _ _ hread hA hlt
  · rw [List.append_nil, hfn, hvars]
    rfl

theorem nCellsCmp : Tryd.prog.cellsOf 23 = 5 := by kernel_rfl
theorem nCellsInt : Tryd.prog.cellsOf 3 = 1 := by kernel_rfl
theorem nCellsI64 : Tryd.prog.cellsOf 2 = 1 := by kernel_rfl
theorem nCellsStr : Tryd.prog.cellsOf 9 = 1 := by kernel_rfl
theorem n_five {cs : List Value} (h : cs.length = 5) : ∃ a0 a1 a2 a3 a4, cs = [a0, a1, a2, a3, a4] := by
  match cs, h with
  | [a0, a1, a2, a3, a4], _ => exact ⟨a0, a1, a2, a3, a4, rfl⟩
def CmpV (s : ByteArray) (a b k l : Int) : Value := .agg #[.string s, .int .i64 a, .int .i64 b, .int .i64 k, .int .i64 l]
set_option maxRecDepth 100000 in
theorem open_cmp {H : Type} {enc : TypeId × Value → H} {W : World} {base : Nat} {v : Value} {d : DataW H} {p : List MemPlace} (hval : Value.okWide Tryd.prog W .any base 23 v)
    (h : DataW.Trod enc Tryd.prog W 0 (fun _ => true) true 23 v d p) : ∃ (s : ByteArray) (a b k l : Int), v = CmpV s a b k l := by
  obtain ⟨cs, rfl, _⟩ := okWide_struct Tryd.underlying23 hval
  obtain ⟨fuel, hf⟩ := h
  obtain ⟨xs, n, _, hx, hcl, hxl, hfd⟩ := DataW.trod_struct Tryd.underlying23 hf
  obtain ⟨l⟩ := cs
  rw [nCellsCmp] at hcl
  change l.length = 5 at hcl
  obtain ⟨a0, a1, a2, a3, a4, rfl⟩ := n_five hcl
  have h0 := hfd 0 _ rfl
  have l0 : 0 < xs.length := by rw [hxl]; decide
  rw [List.getElem?_eq_getElem l0] at h0
  change DataW.trod enc Tryd.prog W 0 _ true n 9 (List.take (Tryd.prog.cellsOf 9) (List.drop 0 [a0, a1, a2, a3, a4])) = _ at h0
  rw [nCellsStr] at h0
  obtain ⟨z0, e0, _, _⟩ := DataW.trod_string Tryd.underlying9 h0
  have h1 := hfd 1 _ rfl
  have l1 : 1 < xs.length := by rw [hxl]; decide
  rw [List.getElem?_eq_getElem l1] at h1
  change DataW.trod enc Tryd.prog W 0 _ true n 3 (List.take (Tryd.prog.cellsOf 3) (List.drop 1 [a0, a1, a2, a3, a4])) = _ at h1
  rw [nCellsInt] at h1
  obtain ⟨z1, e1, _, _⟩ := DataW.trod_int Tryd.underlying3 h1
  have h2 := hfd 2 _ rfl
  have l2 : 2 < xs.length := by rw [hxl]; decide
  rw [List.getElem?_eq_getElem l2] at h2
  change DataW.trod enc Tryd.prog W 0 _ true n 3 (List.take (Tryd.prog.cellsOf 3) (List.drop 2 [a0, a1, a2, a3, a4])) = _ at h2
  rw [nCellsInt] at h2
  obtain ⟨z2, e2, _, _⟩ := DataW.trod_int Tryd.underlying3 h2
  have h3 := hfd 3 _ rfl
  have l3 : 3 < xs.length := by rw [hxl]; decide
  rw [List.getElem?_eq_getElem l3] at h3
  change DataW.trod enc Tryd.prog W 0 _ true n 2 (List.take (Tryd.prog.cellsOf 2) (List.drop 3 [a0, a1, a2, a3, a4])) = _ at h3
  rw [nCellsI64] at h3
  obtain ⟨z3, e3, _, _⟩ := DataW.trod_int Tryd.underlying2 h3
  have h4 := hfd 4 _ rfl
  have l4 : 4 < xs.length := by rw [hxl]; decide
  rw [List.getElem?_eq_getElem l4] at h4
  change DataW.trod enc Tryd.prog W 0 _ true n 2 (List.take (Tryd.prog.cellsOf 2) (List.drop 4 [a0, a1, a2, a3, a4])) = _ at h4
  rw [nCellsI64] at h4
  obtain ⟨z4, e4, _, _⟩ := DataW.trod_int Tryd.underlying2 h4
  simp at e0 e1 e2 e3 e4
  exact ⟨z0, z1, z2, z3, z4, by rw [e0, e1, e2, e3, e4]; rfl⟩
set_option maxRecDepth 100000 in
theorem laid_met_cmp (os : Os) : laidMet Tryd.prog laid3 ((laidWorld os).forCall (fun _ _ => 0) ⟨#[], #[CmpV ⟨#[]⟩ 0 0 0 0], []⟩).memory :=
  laidMet_of_run' 8 (by kernel_rfl) (by kernel_rfl)
set_option maxRecDepth 100000 in
theorem laid_met_cmp2 (os : Os) : laidMet Tryd.prog laid3 ((laidWorld os).forCall (fun _ _ => 0) ⟨#[], #[CmpV ⟨#[]⟩ 0 0 0 0, .int .i64 0, .int .i64 0], []⟩).memory :=
  laidMet_of_run' 8 (by kernel_rfl) (by kernel_rfl)
set_option maxRecDepth 100000 in
theorem cmp_contract {H : Type} {enc : TypeId × Value → H} {f : FuncId} {fn : Func} {sp : ChangeSpec} (hp : fn.params = #[23]) (hr : fn.resultTypes = #[4]) (hvars : sp.vars = [])
    (hfn : ∀ d : DataW H, sp.fn H [d] = { results := [.lit (.bool true)], args := [d] })
    (walk : ∀ (s : ByteArray) (a b k l : Int) (w : World), Tabs w → Calls Tryd.prog f #[CmpV s a b k l] w fun e w' => e = .returned (.bool true) ∧ Below w.heap.size w w')
    (W : World) (base : Nat) (args : Array Value) (ds gs : List (DataW H)) (before : List MemPlace)
    (hval : ∀ (j : Nat) t v, fn.params[j]? = some t → args[j]? = some v → Value.okWide Tryd.prog W .any base t v)
    (hW : DataW.Whole enc Tryd.prog fn.params.toList sp.vars false W args.toList ds gs before) (hL : laidMetH Tryd.prog laid3 W) :
    Calls Tryd.prog f args W fun e W' => ∃ v, e = .returned v ∧ sp.post enc Tryd.prog fn false true false false W args v W' := by
  have hW' := hW
  obtain ⟨p, q, hA0, hV, rfl, hfz, hnd⟩ := hW
  rw [hvars] at hV
  have hA : DataW.TrodAll enc Tryd.prog W 0 (fun _ => true) true fn.params.toList args.toList ds p := hA0
  rw [hp] at hA hval
  obtain ⟨v0, vs0, d0, ds0, p0, q0, hargs, rfl, rfl, h0, r0⟩ := trodAll_cons hA
  obtain ⟨rfl, rfl, rfl⟩ := trodAll_nil r0
  obtain rfl : args = #[v0] := by cases args; simp_all
  obtain ⟨rfl, rfl⟩ := trodVars_none hV
  obtain ⟨s, a, b, k, l, rfl⟩ := open_cmp (hval 0 23 v0 (by simp) (by simp)) h0
  clear hA0
  refine (walk s a b k l W (tabs_of_laid hL)).mono fun e W' ⟨he, hb⟩ => ⟨_, he, ?_⟩
  refine n_post hr hvars (hfn _) ?_ hW' hb
  rw [hp]
  intro t ht
  obtain rfl : t = 23 := by simpa using ht
  exact ⟨by kernel_rfl, of_decide_eq_true (by kernel_rfl)⟩
set_option maxRecDepth 100000 in
theorem cmp2_contract {H : Type} {enc : TypeId × Value → H} {f : FuncId} {fn : Func} {sp : ChangeSpec} (hp : fn.params = #[23, 2, 2]) (hr : fn.resultTypes = #[4]) (hvars : sp.vars = [])
    (hfn : ∀ d d1 d2 : DataW H, sp.fn H [d, d1, d2] = { results := [.lit (.bool true)], args := [d, d1, d2] })
    (walk : ∀ (s : ByteArray) (a b k l x y : Int) (w : World), Tabs w → Calls Tryd.prog f #[CmpV s a b k l, .int .i64 x, .int .i64 y] w fun e w' => e = .returned (.bool true) ∧ Below w.heap.size w w')
    (W : World) (base : Nat) (args : Array Value) (ds gs : List (DataW H)) (before : List MemPlace)
    (hval : ∀ (j : Nat) t v, fn.params[j]? = some t → args[j]? = some v → Value.okWide Tryd.prog W .any base t v)
    (hW : DataW.Whole enc Tryd.prog fn.params.toList sp.vars false W args.toList ds gs before) (hL : laidMetH Tryd.prog laid3 W) :
    Calls Tryd.prog f args W fun e W' => ∃ v, e = .returned v ∧ sp.post enc Tryd.prog fn false true false false W args v W' := by
  have hW' := hW
  obtain ⟨p, q, hA0, hV, rfl, hfz, hnd⟩ := hW
  rw [hvars] at hV
  have hA : DataW.TrodAll enc Tryd.prog W 0 (fun _ => true) true fn.params.toList args.toList ds p := hA0
  rw [hp] at hA hval
  obtain ⟨v0, vs0, d0, ds0, p0, q0, hargs, rfl, rfl, h0, r0⟩ := trodAll_cons hA
  obtain ⟨v1, vs1, d1, ds1, p1, q1, hargs1, rfl, rfl, h1, r1⟩ := trodAll_cons r0
  obtain ⟨v2, vs2, d2, ds2, p2, q2, hargs2, rfl, rfl, h2, r2⟩ := trodAll_cons r1
  obtain ⟨rfl, rfl, rfl⟩ := trodAll_nil r2
  obtain rfl : args = #[v0, v1, v2] := by cases args; simp_all
  obtain ⟨rfl, rfl⟩ := trodVars_none hV
  obtain ⟨s, a, b, k, l, rfl⟩ := open_cmp (hval 0 23 v0 rfl rfl) h0
  obtain ⟨x, rfl, _⟩ := open_int Tryd.underlying2 (hval 1 2 v1 rfl rfl) h1
  obtain ⟨y, rfl, _⟩ := open_int Tryd.underlying2 (hval 2 2 v2 rfl rfl) h2
  clear hA0
  refine (walk s a b k l x y W (tabs_of_laid hL)).mono fun e W' ⟨he, hb⟩ => ⟨_, he, ?_⟩
  refine n_post hr hvars (hfn _ _ _) ?_ hW' hb
  rw [hp]
  intro t ht
  rcases (show t = 23 ∨ t = 2 by simpa using ht) with rfl | rfl
  all_goals exact ⟨by kernel_rfl, of_decide_eq_true (by kernel_rfl)⟩

end Go.Proofs.YtdkdidgeaalcgaaDoor
