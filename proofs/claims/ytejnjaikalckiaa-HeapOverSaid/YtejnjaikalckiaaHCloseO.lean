/- How a list of values that came in stands in memory; the contract of a law of facts, values and numbers. -/
import Derived.Test.YtejnjaikalckiaaHLe
import Derived.Test.YtejnjaikalckiaaDNums
namespace Go.Proofs.Ytejnjaikalckiaa
open Go.ChangeShapes Go.WideShapes Go.ChangeAt Go.RowKit

instance : Inhabited Sy := ⟨sy0⟩
theorem cellsSym : Try.prog.cellsOf 36 = 4 := by kernel_rfl
theorem bytesSym : Try.prog.bytesOf 36 = 32 := by kernel_rfl
theorem cellsKind : Try.prog.cellsOf 34 = 1 := by kernel_rfl
theorem four {cs : List Value} (h : cs.length = 4) : ∃ a b c d, cs = [a, b, c, d] := by
  match cs, h with
  | [a, b, c, d], _ => exact ⟨a, b, c, d, rfl⟩

set_option maxRecDepth 100000 in
theorem sym_of_trod {H : Type} {enc : TypeId × Value → H} {W : World} {base fuel : Nat} {sp : Nat → Bool} {held : Bool} {cs : List Value} {x : DataW H × List MemPlace} (h : DataW.trod enc Try.prog W base sp held fuel 36 cs = some x) :
    ∃ s : Sy, cs = syCells s := by
  obtain ⟨xs, n, _, _, hcl, hxl, hf⟩ := DataW.trod_struct Try.underlying36 h
  rw [cellsSym] at hcl
  obtain ⟨a, b, c, d, rfl⟩ := four hcl
  have h0 := hf 0 _ rfl
  have h1 := hf 1 _ rfl
  have h2 := hf 2 _ rfl
  have h3 := hf 3 _ rfl
  rw [List.getElem?_eq_getElem (show 0 < xs.length by rw [hxl]; decide)] at h0
  rw [List.getElem?_eq_getElem (show 1 < xs.length by rw [hxl]; decide)] at h1
  rw [List.getElem?_eq_getElem (show 2 < xs.length by rw [hxl]; decide)] at h2
  rw [List.getElem?_eq_getElem (show 3 < xs.length by rw [hxl]; decide)] at h3
  change DataW.trod enc Try.prog W base sp held n 34 (List.take (Try.prog.cellsOf 34) (List.drop 0 [a, b, c, d])) = _ at h0
  change DataW.trod enc Try.prog W base sp held n 3 (List.take (Try.prog.cellsOf 3) (List.drop 1 [a, b, c, d])) = _ at h1
  change DataW.trod enc Try.prog W base sp held n 2 (List.take (Try.prog.cellsOf 2) (List.drop 2 [a, b, c, d])) = _ at h2
  change DataW.trod enc Try.prog W base sp held n 3 (List.take (Try.prog.cellsOf 3) (List.drop 3 [a, b, c, d])) = _ at h3
  rw [cellsKind] at h0
  rw [cellsInt] at h1 h3
  rw [cellsI64] at h2
  obtain ⟨x0, e0, _, _⟩ := DataW.trod_int Try.underlying34 h0
  obtain ⟨x1, e1, _, _⟩ := DataW.trod_int Try.underlying3 h1
  obtain ⟨x2, e2, _, _⟩ := DataW.trod_int Try.underlying2 h2
  obtain ⟨x3, e3, _, _⟩ := DataW.trod_int Try.underlying3 h3
  simp at e0 e1 e2 e3
  exact ⟨⟨x0, x1, x2, x3⟩, by rw [e0, e1, e2, e3]; rfl⟩

set_option maxRecDepth 100000 in
theorem open_syms {H : Type} {enc : TypeId × Value → H} {W : World} {base : Nat} {v : Value} {d : DataW H} {p : List MemPlace} (hval : Value.okWide Try.prog W .any base 38 v)
    (h : DataW.Trod enc Try.prog W 0 (fun _ => true) true 38 v d p) :
    ∃ A cap fs, v = .slice A fs.length cap ∧ SysAt W W.heap.size A fs ∧ fs.length ≤ cap ∧ cap ≤ maxLen ∧ (cap = 0 ∨ ∃ es sp, d = .slice es sp ∧ es.length + sp.length = cap) := by
  obtain ⟨a1, len1, cap1, rfl⟩ := okWide_slice Try.underlying38 hval
  obtain ⟨fuel, hf⟩ := h
  rcases Deep.open_slice Try.underlying38 hf with ⟨hcs, _⟩ | ⟨a, len, cap, m, n, D, Pl, hcs, _, hl, hm, hmm, hx, hel⟩
  · simp [Value.cells] at hcs
    obtain ⟨rfl, rfl, rfl⟩ := hcs
    exact ⟨none, 0, [], rfl, fun h => absurd h (by simp), Nat.le_refl _, Nat.zero_le _, .inl rfl⟩
  · simp [Value.cells] at hcs
    obtain ⟨rfl, rfl, rfl⟩ := hcs
    simp only [if_true] at hmm
    subst hmm
    simp only [Prod.mk.injEq] at hx
    obtain ⟨rfl, _⟩ := hx
    have hex : ∀ i, i < len1 → ∃ f : Sy, ∀ q u, (syCells f)[q]? = some u → W.cell? (a.add (i * 4 + q)) = some u := fun i hi => by
      obtain ⟨cs', h1, h2⟩ := hel i (by omega)
      obtain ⟨f, rfl⟩ := sym_of_trod h2
      refine ⟨f, fun q u hq => ?_⟩
      obtain ⟨_, _, hc⟩ := World.cells?_some h1
      have hql : q < 4 := by have := (List.getElem?_eq_some_iff.1 hq).1; simpa [syCells] using this
      have h3 := hc q (by rw [cellsSym]; exact hql)
      rw [cellsSym, Deep.add_add] at h3
      exact h3.trans hq
    obtain ⟨fn, hfn⟩ := Deep.choose_lt (α := Sy) hex
    refine ⟨some a, m, (List.range len1).map fn, by simp, fun hn => ?_, by simpa using hl, hm, .inr ⟨_, _, rfl, by simp; omega⟩⟩
    simp only [List.length_map, List.length_range] at hn
    obtain ⟨b, off, spot⟩ := a
    have hspot : spot = none := by simpa [Addr.add] using World.cell?_spot (hfn 0 hn 0 _ rfl)
    subst hspot
    have h0 := hfn 0 hn 0 _ rfl
    refine ⟨b, off, rfl, ?_, fun i f hf => ?_⟩
    · rw [add_plain] at h0
      rcases Nat.lt_or_ge b W.heap.size with hlt | hge
      · exact hlt
      · simp [World.cell?, Array.getElem?_eq_none hge] at h0
    · have hi : i < len1 := by have := (List.getElem?_eq_some_iff.1 hf).1; simpa using this
      rw [List.getElem?_map, List.getElem?_range hi] at hf
      cases hf
      have c0 := hfn i hi 0 _ rfl
      have c1 := hfn i hi 1 _ rfl
      have c2 := hfn i hi 2 _ rfl
      have c3 := hfn i hi 3 _ rfl
      rw [add_plain] at c0 c1 c2 c3
      exact ⟨c0, c1, c2, c3⟩

set_option maxRecDepth 100000 in
theorem over_contract {H : Type} {enc : TypeId × Value → H} {f : FuncId} {fn : Func} {sp : ChangeSpec} {ts : List TypeId} (hp : fn.params = #[23, 38, 54]) (hr : fn.resultTypes = #[4]) (hvars : sp.vars = [])
    (hfn : ∀ d1 d2 d3 : DataW H, sp.fn H [d1, d2, d3] = { results := [.lit (.bool true)], args := [d1, d2, d3] })
    (walk : ∀ (A0 : Option Addr) (cap0 : Nat) (l0 : List F) (A1 : Option Addr) (cap1 : Nat) (l1 : List Sy) (A2 : Option Addr) (cap2 : Nat) (l2 : List Int) (w : World), FactsAt w w.heap.size A0 l0 → l0.length ≤ cap0 → cap0 ≤ maxLen → cap0 * 24 ≤ 140737488351232 → SysAt w w.heap.size A1 l1 → l1.length ≤ cap1 → cap1 ≤ maxLen → cap1 * 32 ≤ 140737488351232 → NumsAt w w.heap.size A2 l2 → l2.length ≤ cap2 → cap2 ≤ maxLen → cap2 * 8 ≤ 140737488351232 → Calls Try.prog f #[.slice A0 l0.length cap0, .slice A1 l1.length cap1, .slice A2 l2.length cap2] w fun e w' => e = .returned (.bool true) ∧ Below w.heap.size w w')
    (W : World) (base : Nat) (args : Array Value) (ds gs : List (DataW H)) (before : List MemPlace)
    (hval : ∀ (j : Nat) t v, fn.params[j]? = some t → args[j]? = some v → Value.okWide Try.prog W .any base t v)
    (hW : DataW.Whole enc Try.prog fn.params.toList sp.vars false W args.toList ds gs before) (hreach : (DataW.weightsEach Try.prog (fn.params.toList ++ ts) (ds ++ gs)).all (· ≤ reachBytes) = true) :
    Calls Try.prog f args W fun e W' => ∃ v, e = .returned v ∧ sp.post enc Try.prog fn false true false false W args v W' := by
  have hW' := hW
  obtain ⟨p, q, hA0, hV, rfl, hfz, hnd⟩ := hW
  rw [hvars] at hV
  have hA : DataW.TrodAll enc Try.prog W 0 (fun _ => true) true fn.params.toList args.toList ds p := hA0
  rw [hp] at hA hval hreach
  obtain ⟨v0, vs0, dd0, ds0, pp0, q0, hargs0, rfl, rfl, h0, r0⟩ := trodAll_cons hA
  obtain ⟨v1, vs1, dd1, ds1, pp1, q1, hargs1, rfl, rfl, h1, r1⟩ := trodAll_cons r0
  obtain ⟨v2, vs2, dd2, ds2, pp2, q2, hargs2, rfl, rfl, h2, r2⟩ := trodAll_cons r1
  obtain ⟨rfl, rfl, rfl⟩ := trodAll_nil r2
  obtain rfl : args = #[v0, v1, v2] := by cases args; simp_all
  obtain ⟨rfl, rfl⟩ := trodVars_none hV
  obtain ⟨A0, cap0, l0, rfl, hl0, hc0, hm0, hd0⟩ := open_facts (hval 0 23 v0 rfl rfl) h0
  have hy0 : cap0 * 24 ≤ 140737488351232 := by
    rcases hd0 with rfl | ⟨es, sp, rfl, rfl⟩
    · omega
    · have := sized_slice hreach (j := 0) (t := 23) (elems := es) (spare := sp) rfl rfl Try.underlying23
      rw [bytesLeq] at this
      exact this
  obtain ⟨A1, cap1, l1, rfl, hl1, hc1, hm1, hd1⟩ := open_syms (hval 1 38 v1 rfl rfl) h1
  have hy1 : cap1 * 32 ≤ 140737488351232 := by
    rcases hd1 with rfl | ⟨es, sp, rfl, rfl⟩
    · omega
    · have := sized_slice hreach (j := 1) (t := 38) (elems := es) (spare := sp) rfl rfl Try.underlying38
      rw [bytesSym] at this
      exact this
  obtain ⟨A2, cap2, l2, rfl, hl2, hc2, hm2, hd2⟩ := open_nums (hval 2 54 v2 rfl rfl) h2
  have hy2 : cap2 * 8 ≤ 140737488351232 := by
    rcases hd2 with rfl | ⟨es, sp, rfl, rfl⟩
    · omega
    · have := sized_slice hreach (j := 2) (t := 54) (elems := es) (spare := sp) rfl rfl Try.underlying54
      rw [bytesI64] at this
      exact this
  clear hA0
  refine (walk A0 cap0 l0 A1 cap1 l1 A2 cap2 l2 W hl0 hc0 hm0 hy0 hl1 hc1 hm1 hy1 hl2 hc2 hm2 hy2).mono fun e W' ⟨he, hb⟩ => ⟨_, he, ?_⟩
  refine close_post hr hvars (hfn _ _ _) ?_ hW' hb
  rw [hp]
  intro t ht
  have hm : t = 23 ∨ t = 38 ∨ t = 54 := by simpa using ht
  rcases hm with rfl | rfl | rfl
  · exact ⟨by kernel_rfl, of_decide_eq_true (by kernel_rfl)⟩
  · exact ⟨by kernel_rfl, of_decide_eq_true (by kernel_rfl)⟩
  · exact ⟨by kernel_rfl, of_decide_eq_true (by kernel_rfl)⟩

end Go.Proofs.Ytejnjaikalckiaa
