/- From the walk of a law of layer 6 to what its row asks of a call: the answer is true, and nothing that was there has changed, so that each argument reads as before. -/
import Derived.Test.YteepocmdgkngeaaMArgs
import Derived.ProofKit
import Derived.OpenShut
import Derived.SizedLaws
import Derived.Deep.DeepHandedRow
import Derived.Deep.Slices
import Derived.Deep.Grids
import Derived.Lib.SmallJoins
namespace Go.Proofs.Yteepocmdgkngeaa
open Go.ChangeShapes Go.WideShapes Go.ChangeAt Go.RowKit

theorem own : ownKnob Try.prog.godebug = none := by kernel_rfl
theorem laidOut : laidOutB Try.prog = true := by kernel_rfl

theorem below_trodAll {H : Type} {enc : TypeId × Value → H} {P : Program} (hl : laidOutB P = true) {W W' : World} (hb : Below W.heap.size W W') :
    ∀ (ts : List TypeId) (vs : List Value) (ds : List (DataW H)) (ps : List MemPlace), (∀ t ∈ ts, P.readableRec t = true ∧ t < P.types.size) → DataW.TrodAll enc P W 0 (fun _ => true) true ts vs ds ps → (∀ x ∈ ps, x.block < W.heap.size) →
      DataW.TrodAll enc P W' 0 (fun b => decide (b < W.heap.size)) true ts vs ds ps
  | [], vs, ds, ps, _, h, _ => by
    obtain ⟨rfl, rfl, rfl⟩ := trodAll_nil h
    exact trodAll_mk0
  | t :: ts, vs, ds, ps, hr, h, hlt => by
    obtain ⟨v0, vs0, d0, ds0, p0, q0, rfl, rfl, rfl, h0, r0⟩ := trodAll_cons h
    have h1 := hr t (by simp)
    exact trodAll_cons_mk (Below.trod hl h1.1 h1.2 h0 hb (fun x hx => hlt x (by simp [hx]))) (below_trodAll hl hb ts vs0 ds0 q0 (fun u hu => hr u (by simp [hu])) r0 (fun x hx => hlt x (by simp [hx])))

theorem close_post {H : Type} {enc : TypeId × Value → H} {fn : Func} {sp : ChangeSpec} {W W' : World} {args : Array Value} {ds gs : List (DataW H)} {before : List MemPlace}
    (hr : fn.resultTypes = #[4]) (hvars : sp.vars = []) (hfn : sp.fn H ds = { results := [.lit (.bool true)], args := ds }) (hread : ∀ t ∈ fn.params.toList, Try.prog.readableRec t = true ∧ t < Try.prog.types.size)
    (hW : DataW.Whole enc Try.prog fn.params.toList sp.vars false W args.toList ds gs before) (hb : Below W.heap.size W W') :
    sp.post enc Try.prog fn false true false false W args (.bool true) W' := by
  have hW' := hW
  obtain ⟨p, q, hA, hV, rfl, _, _⟩ := hW
  rw [hvars] at hV
  obtain ⟨rfl, rfl⟩ := trodVars_none hV
  have hlt : ∀ x ∈ p, x.block < W.heap.size := fun x hx => hW'.lt x (by simpa using hx)
  refine ⟨_, _, _, [], p, [], hW', ?_, ?_, ?_, World.keptBut_mono (fun x hx => ⟨hx, .inr (.inl (by simpa using hx))⟩) (hb.frame (· ∈ _)), fun h => by cases h⟩
  · rw [List.append_nil, hfn, hr]
    exact trodAll_cons_mk (shut_bool Try.underlying4 _) trodAll_mk0
  · rw [List.append_nil, hfn]
    exact below_trodAll laidOut hb _ _ _ _ hread hA hlt
  · rw [List.append_nil, hfn, hvars]
    rfl

theorem cellsBool : Try.prog.cellsOf 4 = 1 := by kernel_rfl
theorem bytesBool : Try.prog.bytesOf 4 = 1 := by kernel_rfl
theorem cellsI64 : Try.prog.cellsOf 2 = 1 := by kernel_rfl
theorem bytesI64 : Try.prog.bytesOf 2 = 8 := by kernel_rfl
theorem cellsTwo : Try.prog.cellsOf 60 = 2 := by kernel_rfl

theorem open_boolsL {H : Type} {enc : TypeId × Value → H} {W : World} {base : Nat} {v : Value} {d : DataW H} {p : List MemPlace} (hval : Value.okWide Try.prog W .any base 26 v)
    (h : DataW.Trod enc Try.prog W 0 (fun _ => true) true 26 v d p) :
    ∃ A cap bs, v = .slice A bs.length cap ∧ BoolsAt W W.heap.size A bs ∧ bs.length ≤ cap ∧ cap ≤ maxLen ∧ (cap = 0 ∨ ∃ es sp, d = .slice es sp ∧ es.length + sp.length = cap) := by
  obtain ⟨a1, len1, cap1, rfl⟩ := okWide_slice Try.underlying26 hval
  obtain ⟨fuel, hf⟩ := h
  rcases Deep.open_bools Try.underlying26 Try.underlying4 cellsBool hf with ⟨hcs, hx⟩ | ⟨a, len, cap, B, hcs, _, hl, hm, hx, hcell⟩
  · simp [Value.cells] at hcs
    obtain ⟨rfl, rfl, rfl⟩ := hcs
    exact ⟨none, 0, [], rfl, fun h => absurd h (by simp), Nat.le_refl _, Nat.zero_le _, .inl rfl⟩
  · simp [Value.cells] at hcs
    obtain ⟨rfl, rfl, rfl⟩ := hcs
    simp only [Prod.mk.injEq] at hx
    obtain ⟨rfl, rfl⟩ := hx
    refine ⟨some a, cap1, (List.range len1).map B, by simp, fun hn => ?_, by simpa using hl, hm, .inr ⟨_, _, rfl, by simp; omega⟩⟩
    simp only [List.length_map, List.length_range] at hn
    obtain ⟨b, off, spot⟩ := a
    have hspot : spot = none := by simpa [Addr.add] using World.cell?_spot (hcell 0 (by omega))
    subst hspot
    have h0 := hcell 0 (by omega)
    refine ⟨b, off, rfl, ?_, fun i hi => ?_⟩
    · rw [add_plain] at h0
      rcases Nat.lt_or_ge b W.heap.size with hlt | hge
      · exact hlt
      · simp [World.cell?, Array.getElem?_eq_none hge] at h0
    · simp only [List.length_map, List.length_range] at hi
      have c0 := hcell i (by omega)
      rw [add_plain] at c0
      rw [c0, List.getD_eq_getElem?_getD, List.getElem?_map, List.getElem?_range hi]
      rfl

theorem okWide_arr {P : Program} {w : World} {r : Reach} {base n : Nat} {t e : TypeId} {v : Value} (ht : P.underlying t = some (.array n e)) (h : Value.okWide P w r base t v) : ∃ cs, v = .agg cs ∧ cs.size = P.cellsOf t := by
  simp only [Value.okWide, ht] at h
  obtain ⟨cs, h1, h2, _⟩ := h
  exact ⟨cs, h1, h2⟩
theorem trod_two {H : Type} {enc : TypeId × Value → H} {P : Program} {w : World} {base : Nat} {spare : Nat → Bool} {held : Bool} {t e : TypeId} {fuel : Nat} {u0 u1 : Value} {x : DataW H × List MemPlace} (ht : P.underlying t = some (.array 2 e)) (hc : P.cellsOf e = 1)
    (h : DataW.trod enc P w base spare held fuel t [u0, u1] = some x) : ∃ y0 y1 n, DataW.trod enc P w base spare held n e [u0] = some y0 ∧ DataW.trod enc P w base spare held n e [u1] = some y1 := by
  obtain ⟨xs, m, _, _, _, hxl, hel⟩ := DataW.trod_array ht h
  have h0 := hel 0 (by omega)
  have h1 := hel 1 (by omega)
  rw [hc] at h0 h1
  match xs, hxl with
  | [y0, y1], _ => exact ⟨y0, y1, m, h0, h1⟩
theorem open_two {H : Type} {enc : TypeId × Value → H} {W : World} {base : Nat} {v : Value} {d : DataW H} {p : List MemPlace} (hval : Value.okWide Try.prog W .any base 60 v)
    (h : DataW.Trod enc Try.prog W 0 (fun _ => true) true 60 v d p) : ∃ x y : Bool, v = .agg #[.bool x, .bool y] := by
  obtain ⟨cs, rfl, hsz⟩ := okWide_arr Try.underlying60 hval
  obtain ⟨fuel, hf⟩ := h
  obtain ⟨l⟩ := cs
  rw [cellsTwo] at hsz
  match l, hsz with
  | [c0, c1], _ =>
    obtain ⟨y0, y1, m, h0, h1⟩ := trod_two Try.underlying60 cellsBool hf
    obtain ⟨x, hx, _⟩ := DataW.trod_bool Try.underlying4 h0
    obtain ⟨y, hy, _⟩ := DataW.trod_bool Try.underlying4 h1
    simp at hx hy
    subst hx
    subst hy
    exact ⟨x, y, rfl⟩

theorem open_nums {H : Type} {enc : TypeId × Value → H} {W : World} {base : Nat} {v : Value} {d : DataW H} {p : List MemPlace} (hval : Value.okWide Try.prog W .any base 27 v)
    (h : DataW.Trod enc Try.prog W 0 (fun _ => true) true 27 v d p) :
    ∃ A cap zs, v = .slice A zs.length cap ∧ NumsAt W W.heap.size A zs ∧ zs.length ≤ cap ∧ cap ≤ maxLen ∧ (cap = 0 ∨ ∃ es sp, d = .slice es sp ∧ es.length + sp.length = cap) := by
  obtain ⟨a1, len1, cap1, rfl⟩ := okWide_slice Try.underlying27 hval
  obtain ⟨fuel, hf⟩ := h
  rcases open_ints Try.underlying27 Try.underlying2 cellsI64 hf with ⟨hcs, hx⟩ | ⟨b, len, cap, zs, hcs, _, hl, hm, hz, hx, hcell, hwz⟩
  · simp [Value.cells] at hcs
    obtain ⟨rfl, rfl, rfl⟩ := hcs
    exact ⟨none, 0, [], rfl, fun h => absurd h (by simp), Nat.le_refl _, Nat.zero_le _, .inl rfl⟩
  · simp [Value.cells] at hcs
    obtain ⟨rfl, rfl, rfl⟩ := hcs
    simp only [Prod.mk.injEq] at hx
    obtain ⟨rfl, rfl⟩ := hx
    simp only [if_true] at hz
    have hlen : (zs.take len1).length = len1 := by rw [List.length_take]; omega
    refine ⟨some b, cap1, zs.take len1, by rw [hlen], fun hn => ?_, by omega, hm, .inr ⟨_, _, rfl, by simp [lits]; omega⟩⟩
    rw [hlen] at hn
    obtain ⟨b', off, rfl, hc⟩ := ints_at hcell (by omega)
    refine ⟨b', off, rfl, ?_, fun i hi => ?_⟩
    · have h0 := hc 0 (by omega)
      rcases Nat.lt_or_ge b' W.heap.size with hlt | hge
      · exact hlt
      · simp [World.cell?, Array.getElem?_eq_none hge] at h0
    · rw [hlen] at hi
      rw [hc i (by omega)]
      rw [List.getD_eq_getElem?_getD, List.getD_eq_getElem?_getD, List.getElem?_take, if_pos hi]

theorem bools_contract {H : Type} {enc : TypeId × Value → H} {f : FuncId} {fn : Func} {sp : ChangeSpec} {ts : List TypeId} (hp : fn.params = #[26]) (hr : fn.resultTypes = #[4]) (hvars : sp.vars = [])
    (hfn : ∀ d1 : DataW H, sp.fn H [d1] = { results := [.lit (.bool true)], args := [d1] })
    (walk : ∀ (A0 : Option Addr) (cap0 : Nat) (l0 : List Bool) (w : World), BoolsAt w w.heap.size A0 l0 → l0.length ≤ cap0 → cap0 ≤ maxLen → cap0 * 1 ≤ 140737488351232 → Calls Try.prog f #[.slice A0 l0.length cap0] w fun e w' => e = .returned (.bool true) ∧ Below w.heap.size w w')
    (W : World) (base : Nat) (args : Array Value) (ds gs : List (DataW H)) (before : List MemPlace)
    (hval : ∀ (j : Nat) t v, fn.params[j]? = some t → args[j]? = some v → Value.okWide Try.prog W .any base t v)
    (hW : DataW.Whole enc Try.prog fn.params.toList sp.vars false W args.toList ds gs before) (hreach : (DataW.weightsEach Try.prog (fn.params.toList ++ ts) (ds ++ gs)).all (· ≤ reachBytes) = true) :
    Calls Try.prog f args W fun e W' => ∃ v, e = .returned v ∧ sp.post enc Try.prog fn false true false false W args v W' := by
  have hW' := hW
  obtain ⟨p, q, hA0, hV, rfl, hfz, hnd⟩ := hW
  rw [hvars] at hV
  have hA : DataW.TrodAll enc Try.prog W 0 (fun _ => true) true fn.params.toList args.toList ds p := hA0
  rw [hp] at hA hval hreach
  obtain ⟨v0, vs0, dd0, ds0, pp0, q0, hargs0, rfl, rfl, h0, r0⟩ := trodAll_cons hA
  obtain ⟨rfl, rfl, rfl⟩ := trodAll_nil r0
  obtain rfl : args = #[v0] := by cases args; simp_all
  obtain ⟨rfl, rfl⟩ := trodVars_none hV
  obtain ⟨A0, cap0, l0, rfl, hl0, hc0, hm0, hd0⟩ := open_boolsL (hval 0 26 v0 rfl rfl) h0
  have hy0 : cap0 * 1 ≤ 140737488351232 := by
    rcases hd0 with rfl | ⟨es, sp, rfl, rfl⟩
    · omega
    · have := sized_slice hreach (j := 0) (t := 26) (elems := es) (spare := sp) rfl rfl Try.underlying26
      rw [bytesBool] at this
      exact this
  clear hA0
  refine (walk A0 cap0 l0 W hl0 hc0 hm0 hy0).mono fun e W' ⟨he, hb⟩ => ⟨_, he, ?_⟩
  refine close_post hr hvars (hfn _) ?_ hW' hb
  rw [hp]
  intro t ht
  have hm : t = 26 := by simpa using ht
  rcases hm with rfl
  · exact ⟨by kernel_rfl, of_decide_eq_true (by kernel_rfl)⟩

theorem numsBools_contract {H : Type} {enc : TypeId × Value → H} {f : FuncId} {fn : Func} {sp : ChangeSpec} {ts : List TypeId} (hp : fn.params = #[27, 26]) (hr : fn.resultTypes = #[4]) (hvars : sp.vars = [])
    (hfn : ∀ d1 d2 : DataW H, sp.fn H [d1, d2] = { results := [.lit (.bool true)], args := [d1, d2] })
    (walk : ∀ (A0 : Option Addr) (cap0 : Nat) (l0 : List Int) (A1 : Option Addr) (cap1 : Nat) (l1 : List Bool) (w : World), NumsAt w w.heap.size A0 l0 → l0.length ≤ cap0 → cap0 ≤ maxLen → cap0 * 8 ≤ 140737488351232 → BoolsAt w w.heap.size A1 l1 → l1.length ≤ cap1 → cap1 ≤ maxLen → cap1 * 1 ≤ 140737488351232 → Calls Try.prog f #[.slice A0 l0.length cap0, .slice A1 l1.length cap1] w fun e w' => e = .returned (.bool true) ∧ Below w.heap.size w w')
    (W : World) (base : Nat) (args : Array Value) (ds gs : List (DataW H)) (before : List MemPlace)
    (hval : ∀ (j : Nat) t v, fn.params[j]? = some t → args[j]? = some v → Value.okWide Try.prog W .any base t v)
    (hW : DataW.Whole enc Try.prog fn.params.toList sp.vars false W args.toList ds gs before) (hreach : (DataW.weightsEach Try.prog (fn.params.toList ++ ts) (ds ++ gs)).all (· ≤ reachBytes) = true) :
    Calls Try.prog f args W fun e W' => ∃ v, e = .returned v ∧ sp.post enc Try.prog fn false true false false W args v W' := by
  have hW' := hW
  obtain ⟨p, q, hA0, hV, rfl, hfz, hnd⟩ := hW
  rw [hvars] at hV
  have hA : DataW.TrodAll enc Try.prog W 0 (fun _ => true) true fn.params.toList args.toList ds p := hA0
  rw [hp] at hA hval hreach
  obtain ⟨v0, vs0, dd0, ds0, pp0, q0, hargs0, rfl, rfl, h0, r0⟩ := trodAll_cons hA
  obtain ⟨v1, vs1, dd1, ds1, pp1, q1, hargs1, rfl, rfl, h1, r1⟩ := trodAll_cons r0
  obtain ⟨rfl, rfl, rfl⟩ := trodAll_nil r1
  obtain rfl : args = #[v0, v1] := by cases args; simp_all
  obtain ⟨rfl, rfl⟩ := trodVars_none hV
  obtain ⟨A0, cap0, l0, rfl, hl0, hc0, hm0, hd0⟩ := open_nums (hval 0 27 v0 rfl rfl) h0
  have hy0 : cap0 * 8 ≤ 140737488351232 := by
    rcases hd0 with rfl | ⟨es, sp, rfl, rfl⟩
    · omega
    · have := sized_slice hreach (j := 0) (t := 27) (elems := es) (spare := sp) rfl rfl Try.underlying27
      rw [bytesI64] at this
      exact this
  obtain ⟨A1, cap1, l1, rfl, hl1, hc1, hm1, hd1⟩ := open_boolsL (hval 1 26 v1 rfl rfl) h1
  have hy1 : cap1 * 1 ≤ 140737488351232 := by
    rcases hd1 with rfl | ⟨es, sp, rfl, rfl⟩
    · omega
    · have := sized_slice hreach (j := 1) (t := 26) (elems := es) (spare := sp) rfl rfl Try.underlying26
      rw [bytesBool] at this
      exact this
  clear hA0
  refine (walk A0 cap0 l0 A1 cap1 l1 W hl0 hc0 hm0 hy0 hl1 hc1 hm1 hy1).mono fun e W' ⟨he, hb⟩ => ⟨_, he, ?_⟩
  refine close_post hr hvars (hfn _ _) ?_ hW' hb
  rw [hp]
  intro t ht
  have hm : t = 27 ∨ t = 26 := by simpa using ht
  rcases hm with rfl | rfl
  · exact ⟨by kernel_rfl, of_decide_eq_true (by kernel_rfl)⟩
  · exact ⟨by kernel_rfl, of_decide_eq_true (by kernel_rfl)⟩

theorem two_contract {H : Type} {enc : TypeId × Value → H} {f : FuncId} {fn : Func} {sp : ChangeSpec} {ts : List TypeId} (hp : fn.params = #[60, 2, 2]) (hr : fn.resultTypes = #[4]) (hvars : sp.vars = [])
    (hfn : ∀ d1 d2 d3 : DataW H, sp.fn H [d1, d2, d3] = { results := [.lit (.bool true)], args := [d1, d2, d3] })
    (walk : ∀ (a0 b0 : Bool) (n1 : Int) (n2 : Int) (w : World), -9223372036854775808 ≤ n1 → n1 ≤ 9223372036854775807 → -9223372036854775808 ≤ n2 → n2 ≤ 9223372036854775807 → Calls Try.prog f #[.agg #[.bool a0, .bool b0], .int .i64 n1, .int .i64 n2] w fun e w' => e = .returned (.bool true) ∧ Below w.heap.size w w')
    (W : World) (base : Nat) (args : Array Value) (ds gs : List (DataW H)) (before : List MemPlace)
    (hval : ∀ (j : Nat) t v, fn.params[j]? = some t → args[j]? = some v → Value.okWide Try.prog W .any base t v)
    (hW : DataW.Whole enc Try.prog fn.params.toList sp.vars false W args.toList ds gs before) (hreach : (DataW.weightsEach Try.prog (fn.params.toList ++ ts) (ds ++ gs)).all (· ≤ reachBytes) = true) :
    Calls Try.prog f args W fun e W' => ∃ v, e = .returned v ∧ sp.post enc Try.prog fn false true false false W args v W' := by
  have hW' := hW
  obtain ⟨p, q, hA0, hV, rfl, hfz, hnd⟩ := hW
  rw [hvars] at hV
  have hA : DataW.TrodAll enc Try.prog W 0 (fun _ => true) true fn.params.toList args.toList ds p := hA0
  rw [hp] at hA hval hreach
  obtain ⟨v0, vs0, dd0, ds0, pp0, q0, hargs0, rfl, rfl, h0, r0⟩ := trodAll_cons hA
  obtain ⟨v1, vs1, dd1, ds1, pp1, q1, hargs1, rfl, rfl, h1, r1⟩ := trodAll_cons r0
  obtain ⟨v2, vs2, dd2, ds2, pp2, q2, hargs2, rfl, rfl, h2, r2⟩ := trodAll_cons r1
  obtain ⟨rfl, rfl, rfl⟩ := trodAll_nil r2
  obtain rfl : args = #[v0, v1, v2] := by cases args; simp_all
  obtain ⟨rfl, rfl⟩ := trodVars_none hV
  obtain ⟨a0, b0, rfl⟩ := open_two (hval 0 60 v0 rfl rfl) h0
  obtain ⟨n1, rfl, _, _, hw1⟩ := open_int Try.underlying2 (hval 1 2 v1 rfl rfl) h1
  obtain ⟨n2, rfl, _, _, hw2⟩ := open_int Try.underlying2 (hval 2 2 v2 rfl rfl) h2
  clear hA0
  refine (walk a0 b0 n1 n2 W  (bounds_i64 hw1).1 (bounds_i64 hw1).2 (bounds_i64 hw2).1 (bounds_i64 hw2).2).mono fun e W' ⟨he, hb⟩ => ⟨_, he, ?_⟩
  refine close_post hr hvars (hfn _ _ _) ?_ hW' hb
  rw [hp]
  intro t ht
  have hm : t = 60 ∨ t = 2 ∨ t = 2 := by simpa using ht
  rcases hm with rfl | rfl | rfl
  · exact ⟨by kernel_rfl, of_decide_eq_true (by kernel_rfl)⟩
  · exact ⟨by kernel_rfl, of_decide_eq_true (by kernel_rfl)⟩
  · exact ⟨by kernel_rfl, of_decide_eq_true (by kernel_rfl)⟩

end Go.Proofs.Yteepocmdgkngeaa
