/- From the walk of a law of layer 6 to what its row asks of a call: the answer is true, and nothing that was there has changed, so that each argument reads as before. -/
import Derived.Test.YtnjndggdnmboeaaMStep3
import Derived.ProofKit
import Derived.OpenShut
import Derived.SizedLaws
import Derived.Deep.DeepHandedRow
import Derived.Deep.Slices
import Derived.Deep.Grids
import Derived.Lib.SmallJoins
namespace Go.Proofs.Ytnjndggdnmboeaa
open Go.ChangeShapes Go.WideShapes Go.ChangeAt Go.RowKit

theorem own : ownKnob Try.prog.godebug = none := by kernel_rfl
theorem laidOut : laidOutB Try.prog = true := by kernel_rfl

theorem below_trodAll {H : Type} {enc : TypeId × Value → H} {P : Program} (hl : laidOutB P = true) {W W' : World} (hb : Below W.heap.size W W') :
    ∀ (ts : List TypeId) (vs : List Value) (ds : List (DataW H)) (ps : List MemPlace), (∀ t ∈ ts, P.readableRec t = true ∧ t < P.types.size) → DataW.TrodAll enc P W 0 (fun _ => true) true ts vs ds ps → (∀ x ∈ ps, x.block < W.heap.size) →
      DataW.TrodAll enc P W' 0 (fun b => decide (b < W.heap.size)) true ts vs ds ps
  | [], vs, ds, ps, _, h, _ => by
    obtain ⟨rfl, rfl, rfl⟩ := trodAll_nil h
    exact trodAll_mk0
  | t :: ts, vs, ds, ps, hr, h, hlt => by
    obtain ⟨v0, vs0, d0, ds0, p0, q0, rfl, rfl, rfl, h0, r0⟩ := trodAll_cons h
    have h1 := hr t (by simp)
    exact trodAll_cons_mk (Below.trod hl h1.1 h1.2 h0 hb (fun x hx => hlt x (by simp [hx]))) (below_trodAll hl hb ts vs0 ds0 q0 (fun u hu => hr u (by simp [hu])) r0 (fun x hx => hlt x (by simp [hx])))

theorem close_post {H : Type} {enc : TypeId × Value → H} {fn : Func} {sp : ChangeSpec} {W W' : World} {args : Array Value} {ds gs : List (DataW H)} {before : List MemPlace}
    (hr : fn.resultTypes = #[4]) (hvars : sp.vars = []) (hfn : sp.fn H ds = { results := [.lit (.bool true)], args := ds }) (hread : ∀ t ∈ fn.params.toList, Try.prog.readableRec t = true ∧ t < Try.prog.types.size)
    (hW : DataW.Whole enc Try.prog fn.params.toList sp.vars false W args.toList ds gs before) (hb : Below W.heap.size W W') :
    sp.post enc Try.prog fn false true false false W args (.bool true) W' := by
  have hW' := hW
  obtain ⟨p, q, hA, hV, rfl, _, _⟩ := hW
  rw [hvars] at hV
  obtain ⟨rfl, rfl⟩ := trodVars_none hV
  have hlt : ∀ x ∈ p, x.block < W.heap.size := fun x hx => hW'.lt x (by simpa using hx)
  refine ⟨_, _, _, [], p, [], hW', ?_, ?_, ?_, World.keptBut_mono (fun x hx => ⟨hx, .inr (.inl (by simpa using hx))⟩) (hb.frame (· ∈ _)), fun h => by cases h⟩
  · rw [List.append_nil, hfn, hr]
    exact trodAll_cons_mk (shut_bool Try.underlying4 _) trodAll_mk0
  · rw [List.append_nil, hfn]
    exact below_trodAll laidOut hb _ _ _ _ hread hA hlt
  · rw [List.append_nil, hfn, hvars]
    rfl

instance : Inhabited MO := ⟨⟨0, v0, v0, false⟩⟩
theorem cellsOp : Try.prog.cellsOf 36 = 8 := by kernel_rfl
theorem cellsVal : Try.prog.cellsOf 34 = 3 := by kernel_rfl
theorem cellsKind : Try.prog.cellsOf 32 = 1 := by kernel_rfl
theorem cellsInt : Try.prog.cellsOf 3 = 1 := by kernel_rfl
theorem cellsI64 : Try.prog.cellsOf 2 = 1 := by kernel_rfl
theorem cellsBool : Try.prog.cellsOf 4 = 1 := by kernel_rfl

theorem three {cs : List Value} (h : cs.length = 3) : ∃ a b c, cs = [a, b, c] := by
  match cs, h with
  | [a, b, c], _ => exact ⟨a, b, c, rfl⟩
theorem eight {cs : List Value} (h : cs.length = 8) : ∃ a b c d e f g i, cs = [a, b, c, d, e, f, g, i] := by
  match cs, h with
  | [a, b, c, d, e, f, g, i], _ => exact ⟨a, b, c, d, e, f, g, i, rfl⟩

theorem val_of_trod {H : Type} {enc : TypeId × Value → H} {W : World} {base fuel : Nat} {sp : Nat → Bool} {held : Bool} {cs : List Value} {x : DataW H × List MemPlace} (h : DataW.trod enc Try.prog W base sp held fuel 34 cs = some x) :
    ∃ v : MV, cs = [.int .i64 v.kind, .int .i64 v.n, .int .i64 v.block] := by
  obtain ⟨xs, n, _, _, hcl, hxl, hf⟩ := DataW.trod_struct Try.underlying34 h
  rw [cellsVal] at hcl
  obtain ⟨a, b, c, rfl⟩ := three hcl
  have h0 := hf 0 _ rfl
  have h1 := hf 1 _ rfl
  have h2 := hf 2 _ rfl
  rw [List.getElem?_eq_getElem (show 0 < xs.length by rw [hxl]; decide)] at h0
  rw [List.getElem?_eq_getElem (show 1 < xs.length by rw [hxl]; decide)] at h1
  rw [List.getElem?_eq_getElem (show 2 < xs.length by rw [hxl]; decide)] at h2
  change DataW.trod enc Try.prog W base sp held n 32 (List.take (Try.prog.cellsOf 32) (List.drop 0 [a, b, c])) = _ at h0
  change DataW.trod enc Try.prog W base sp held n 2 (List.take (Try.prog.cellsOf 2) (List.drop 1 [a, b, c])) = _ at h1
  change DataW.trod enc Try.prog W base sp held n 3 (List.take (Try.prog.cellsOf 3) (List.drop 2 [a, b, c])) = _ at h2
  rw [cellsKind] at h0
  rw [cellsI64] at h1
  rw [cellsInt] at h2
  obtain ⟨x, e0, _, _⟩ := DataW.trod_int Try.underlying32 h0
  obtain ⟨y, e1, _, _⟩ := DataW.trod_int Try.underlying2 h1
  obtain ⟨z, e2, _, _⟩ := DataW.trod_int Try.underlying3 h2
  simp at e0 e1 e2
  exact ⟨⟨x, y, z⟩, by rw [e0, e1, e2]⟩
theorem op_of_trod {H : Type} {enc : TypeId × Value → H} {W : World} {base fuel : Nat} {sp : Nat → Bool} {held : Bool} {cs : List Value} {x : DataW H × List MemPlace} (h : DataW.trod enc Try.prog W base sp held fuel 36 cs = some x) :
    ∃ o : MO, cs = [.int .i64 o.kind, .int .i64 o.p.kind, .int .i64 o.p.n, .int .i64 o.p.block, .int .i64 o.v.kind, .int .i64 o.v.n, .int .i64 o.v.block, .bool o.wr] := by
  obtain ⟨xs, n, _, _, hcl, hxl, hf⟩ := DataW.trod_struct Try.underlying36 h
  rw [cellsOp] at hcl
  obtain ⟨a, b, c, d, e, f, g, i, rfl⟩ := eight hcl
  have h0 := hf 0 _ rfl
  have h1 := hf 1 _ rfl
  have h2 := hf 2 _ rfl
  have h3 := hf 3 _ rfl
  rw [List.getElem?_eq_getElem (show 0 < xs.length by rw [hxl]; decide)] at h0
  rw [List.getElem?_eq_getElem (show 1 < xs.length by rw [hxl]; decide)] at h1
  rw [List.getElem?_eq_getElem (show 2 < xs.length by rw [hxl]; decide)] at h2
  rw [List.getElem?_eq_getElem (show 3 < xs.length by rw [hxl]; decide)] at h3
  change DataW.trod enc Try.prog W base sp held n 3 (List.take (Try.prog.cellsOf 3) (List.drop 0 [a, b, c, d, e, f, g, i])) = _ at h0
  change DataW.trod enc Try.prog W base sp held n 34 (List.take (Try.prog.cellsOf 34) (List.drop 1 [a, b, c, d, e, f, g, i])) = _ at h1
  change DataW.trod enc Try.prog W base sp held n 34 (List.take (Try.prog.cellsOf 34) (List.drop 4 [a, b, c, d, e, f, g, i])) = _ at h2
  change DataW.trod enc Try.prog W base sp held n 4 (List.take (Try.prog.cellsOf 4) (List.drop 7 [a, b, c, d, e, f, g, i])) = _ at h3
  rw [cellsInt] at h0
  rw [cellsVal] at h1 h2
  rw [cellsBool] at h3
  obtain ⟨x, e0, _, _⟩ := DataW.trod_int Try.underlying3 h0
  obtain ⟨y, e1⟩ := val_of_trod h1
  obtain ⟨z, e2⟩ := val_of_trod h2
  obtain ⟨u, e3, _⟩ := DataW.trod_bool Try.underlying4 h3
  simp at e0 e1 e2 e3
  obtain ⟨e11, e12, e13⟩ := e1
  obtain ⟨e21, e22, e23⟩ := e2
  exact ⟨⟨x, y, z, u⟩, by rw [e0, e11, e12, e13, e21, e22, e23, e3]⟩

/- How a list of calls that came in stands in memory. -/
def OpsAt (w : World) (B : Nat) (A : Option Addr) (l : List MO) : Prop :=
  0 < l.length → ∃ b off, A = some ⟨b, off, none⟩ ∧ b < B ∧ ∀ i o, l[i]? = some o → ∀ q u, (oCellsV o)[q]? = some u → w.cell? ⟨b, off + i * 8 + q, none⟩ = some u
theorem OpsAt.at {w w' : World} {A : Option Addr} {l : List MO} (h : OpsAt w w.heap.size A l) (hb : Below w.heap.size w w') {k : Nat} {o : MO} (hk : l[k]? = some o) : ∃ b off, A = some ⟨b, off, none⟩ ∧ b < w'.heap.size ∧
    w'.cell? ⟨b, off + k * 8, none⟩ = some (.int .i64 o.kind) ∧ w'.cell? ⟨b, off + k * 8 + 1, none⟩ = some (.int .i64 o.p.kind) ∧ w'.cell? ⟨b, off + k * 8 + 2, none⟩ = some (.int .i64 o.p.n) ∧ w'.cell? ⟨b, off + k * 8 + 3, none⟩ = some (.int .i64 o.p.block) ∧
    w'.cell? ⟨b, off + k * 8 + 4, none⟩ = some (.int .i64 o.v.kind) ∧ w'.cell? ⟨b, off + k * 8 + 5, none⟩ = some (.int .i64 o.v.n) ∧ w'.cell? ⟨b, off + k * 8 + 6, none⟩ = some (.int .i64 o.v.block) ∧ w'.cell? ⟨b, off + k * 8 + 7, none⟩ = some (.bool o.wr) := by
  have hl := (List.getElem?_eq_some_iff.1 hk).1
  obtain ⟨b, off, e, hlt, hc⟩ := h (by omega)
  have key : ∀ q u, (oCellsV o)[q]? = some u → w'.cell? ⟨b, off + k * 8 + q, none⟩ = some u := fun q u hq => (hb.cell (p := ⟨b, off + k * 8 + q, none⟩) hlt).trans (hc k o hk q u hq)
  exact ⟨b, off, e, Nat.lt_of_lt_of_le hlt hb.size, key 0 _ rfl, key 1 _ rfl, key 2 _ rfl, key 3 _ rfl, key 4 _ rfl, key 5 _ rfl, key 6 _ rfl, key 7 _ rfl⟩

theorem open_ops {H : Type} {enc : TypeId × Value → H} {W : World} {base : Nat} {v : Value} {d : DataW H} {p : List MemPlace} (hval : Value.okWide Try.prog W .any base 22 v)
    (h : DataW.Trod enc Try.prog W 0 (fun _ => true) true 22 v d p) :
    ∃ A cap fs, v = .slice A fs.length cap ∧ OpsAt W W.heap.size A fs ∧ fs.length ≤ cap ∧ cap ≤ maxLen := by
  obtain ⟨a1, len1, cap1, rfl⟩ := okWide_slice Try.underlying22 hval
  obtain ⟨fuel, hf⟩ := h
  rcases Deep.open_slice Try.underlying22 hf with ⟨hcs, _⟩ | ⟨a, len, cap, m, n, D, Pl, hcs, _, hl, hm, hmm, hx, hel⟩
  · simp [Value.cells] at hcs
    obtain ⟨rfl, rfl, rfl⟩ := hcs
    exact ⟨none, 0, [], rfl, fun h => absurd h (by simp), Nat.le_refl _, Nat.zero_le _⟩
  · simp [Value.cells] at hcs
    obtain ⟨rfl, rfl, rfl⟩ := hcs
    simp only [if_true] at hmm
    subst hmm
    have hex : ∀ i, i < len1 → ∃ o : MO, ∀ q u, (oCellsV o)[q]? = some u → W.cell? (a.add (i * 8 + q)) = some u := fun i hi => by
      obtain ⟨cs', h1, h2⟩ := hel i (by omega)
      obtain ⟨o, rfl⟩ := op_of_trod h2
      refine ⟨o, fun q u hq => ?_⟩
      obtain ⟨_, _, hc⟩ := World.cells?_some h1
      have hql : q < 8 := by have := (List.getElem?_eq_some_iff.1 hq).1; simpa [oCellsV] using this
      have h3 := hc q (by rw [cellsOp]; exact hql)
      rw [cellsOp, Deep.add_add] at h3
      exact h3.trans hq
    obtain ⟨fn, hfn⟩ := Deep.choose_lt (α := MO) hex
    refine ⟨some a, m, (List.range len1).map fn, by simp, fun hn => ?_, by simpa using hl, hm⟩
    simp only [List.length_map, List.length_range] at hn
    obtain ⟨b, off, spot⟩ := a
    have hspot : spot = none := by simpa [Addr.add] using World.cell?_spot (hfn 0 hn 0 _ rfl)
    subst hspot
    have h0 := hfn 0 hn 0 _ rfl
    refine ⟨b, off, rfl, ?_, fun i f hf q u hq => ?_⟩
    · rw [add_plain] at h0
      rcases Nat.lt_or_ge b W.heap.size with hlt | hge
      · exact hlt
      · simp [World.cell?, Array.getElem?_eq_none hge] at h0
    · have hi : i < len1 := by have := (List.getElem?_eq_some_iff.1 hf).1; simpa using this
      rw [List.getElem?_map, List.getElem?_range hi] at hf
      cases hf
      have c0 := hfn i hi q u hq
      rw [add_plain, ← Nat.add_assoc] at c0
      exact c0

theorem ops_contract {H : Type} {enc : TypeId × Value → H} {f : FuncId} {fn : Func} {sp : ChangeSpec} {ts : List TypeId} (hp : fn.params = #[22]) (hr : fn.resultTypes = #[4]) (hvars : sp.vars = [])
    (hfn : ∀ d1 : DataW H, sp.fn H [d1] = { results := [.lit (.bool true)], args := [d1] })
    (walk : ∀ (A0 : Option Addr) (cap0 : Nat) (l0 : List MO) (w : World), OpsAt w w.heap.size A0 l0 → l0.length ≤ cap0 → cap0 ≤ maxLen → Calls Try.prog f #[.slice A0 l0.length cap0] w fun e w' => e = .returned (.bool true) ∧ Below w.heap.size w w')
    (W : World) (base : Nat) (args : Array Value) (ds gs : List (DataW H)) (before : List MemPlace)
    (hval : ∀ (j : Nat) t v, fn.params[j]? = some t → args[j]? = some v → Value.okWide Try.prog W .any base t v)
    (hW : DataW.Whole enc Try.prog fn.params.toList sp.vars false W args.toList ds gs before) (hreach : (DataW.weightsEach Try.prog (fn.params.toList ++ ts) (ds ++ gs)).all (· ≤ reachBytes) = true) :
    Calls Try.prog f args W fun e W' => ∃ v, e = .returned v ∧ sp.post enc Try.prog fn false true false false W args v W' := by
  have hW' := hW
  obtain ⟨p, q, hA0, hV, rfl, hfz, hnd⟩ := hW
  rw [hvars] at hV
  have hA : DataW.TrodAll enc Try.prog W 0 (fun _ => true) true fn.params.toList args.toList ds p := hA0
  rw [hp] at hA hval hreach
  obtain ⟨v0, vs0, dd0, ds0, pp0, q0, hargs0, rfl, rfl, h0, r0⟩ := trodAll_cons hA
  obtain ⟨rfl, rfl, rfl⟩ := trodAll_nil r0
  obtain rfl : args = #[v0] := by cases args; simp_all
  obtain ⟨rfl, rfl⟩ := trodVars_none hV
  obtain ⟨A0, cap0, l0, rfl, hl0, hc0, hm0⟩ := open_ops (hval 0 22 v0 rfl rfl) h0
  clear hA0
  refine (walk A0 cap0 l0 W hl0 hc0 hm0).mono fun e W' ⟨he, hb⟩ => ⟨_, he, ?_⟩
  refine close_post hr hvars (hfn _) ?_ hW' hb
  rw [hp]
  intro t ht
  have hm : t = 22 := by simpa using ht
  rcases hm with rfl
  · exact ⟨by kernel_rfl, of_decide_eq_true (by kernel_rfl)⟩

theorem ops2_contract {H : Type} {enc : TypeId × Value → H} {f : FuncId} {fn : Func} {sp : ChangeSpec} {ts : List TypeId} (hp : fn.params = #[22, 22]) (hr : fn.resultTypes = #[4]) (hvars : sp.vars = [])
    (hfn : ∀ d1 d2 : DataW H, sp.fn H [d1, d2] = { results := [.lit (.bool true)], args := [d1, d2] })
    (walk : ∀ (A0 : Option Addr) (cap0 : Nat) (l0 : List MO) (A1 : Option Addr) (cap1 : Nat) (l1 : List MO) (w : World), OpsAt w w.heap.size A0 l0 → l0.length ≤ cap0 → cap0 ≤ maxLen → OpsAt w w.heap.size A1 l1 → l1.length ≤ cap1 → cap1 ≤ maxLen → Calls Try.prog f #[.slice A0 l0.length cap0, .slice A1 l1.length cap1] w fun e w' => e = .returned (.bool true) ∧ Below w.heap.size w w')
    (W : World) (base : Nat) (args : Array Value) (ds gs : List (DataW H)) (before : List MemPlace)
    (hval : ∀ (j : Nat) t v, fn.params[j]? = some t → args[j]? = some v → Value.okWide Try.prog W .any base t v)
    (hW : DataW.Whole enc Try.prog fn.params.toList sp.vars false W args.toList ds gs before) (hreach : (DataW.weightsEach Try.prog (fn.params.toList ++ ts) (ds ++ gs)).all (· ≤ reachBytes) = true) :
    Calls Try.prog f args W fun e W' => ∃ v, e = .returned v ∧ sp.post enc Try.prog fn false true false false W args v W' := by
  have hW' := hW
  obtain ⟨p, q, hA0, hV, rfl, hfz, hnd⟩ := hW
  rw [hvars] at hV
  have hA : DataW.TrodAll enc Try.prog W 0 (fun _ => true) true fn.params.toList args.toList ds p := hA0
  rw [hp] at hA hval hreach
  obtain ⟨v0, vs0, dd0, ds0, pp0, q0, hargs0, rfl, rfl, h0, r0⟩ := trodAll_cons hA
  obtain ⟨v1, vs1, dd1, ds1, pp1, q1, hargs1, rfl, rfl, h1, r1⟩ := trodAll_cons r0
  obtain ⟨rfl, rfl, rfl⟩ := trodAll_nil r1
  obtain rfl : args = #[v0, v1] := by cases args; simp_all
  obtain ⟨rfl, rfl⟩ := trodVars_none hV
  obtain ⟨A0, cap0, l0, rfl, hl0, hc0, hm0⟩ := open_ops (hval 0 22 v0 rfl rfl) h0
  obtain ⟨A1, cap1, l1, rfl, hl1, hc1, hm1⟩ := open_ops (hval 1 22 v1 rfl rfl) h1
  clear hA0
  refine (walk A0 cap0 l0 A1 cap1 l1 W hl0 hc0 hm0 hl1 hc1 hm1).mono fun e W' ⟨he, hb⟩ => ⟨_, he, ?_⟩
  refine close_post hr hvars (hfn _ _) ?_ hW' hb
  rw [hp]
  intro t ht
  have hm : t = 22 ∨ t = 22 := by simpa using ht
  rcases hm with rfl | rfl
  · exact ⟨by kernel_rfl, of_decide_eq_true (by kernel_rfl)⟩
  · exact ⟨by kernel_rfl, of_decide_eq_true (by kernel_rfl)⟩

end Go.Proofs.Ytnjndggdnmboeaa
