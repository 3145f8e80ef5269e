/- From the walk of a law of two arguments (two texts; a text and a number) to what its row asks of a call. -/
import Derived.Test.YtnmpfpnldcgbaaaDoorP03
namespace Go.Proofs.YtnmpfpnldcgbaaaDoor
open Go.ChangeShapes Go.WideShapes Go.ChangeAt Go.ChangeMaps Go.RowKit

set_option maxRecDepth 100000 in
theorem texts_contract {H : Type} {enc : TypeId × Value → H} {f : FuncId} {fn : Func} {sp : ChangeSpec} {ts : List TypeId} (hp : fn.params = #[9, 9]) (hr : fn.resultTypes = #[4]) (hvars : sp.vars = [])
    (hfn : ∀ d1 d2 : DataW H, sp.fn H [d1, d2] = { results := [.lit (.bool true)], args := [d1, d2] })
    (walk : ∀ (a b : ByteArray) (w : World), a.size ≤ maxLen → b.size ≤ maxLen → a.size ≤ 140737488351232 → b.size ≤ 140737488351232 → Tabs w → Calls Tryd.prog f #[.string a, .string b] w fun e w' => e = .returned (.bool true) ∧ Below w.heap.size w w')
    (W : World) (base : Nat) (args : Array Value) (ds gs : List (DataW H)) (before : List MemPlace)
    (hval : ∀ (j : Nat) t v, fn.params[j]? = some t → args[j]? = some v → Value.okWide Tryd.prog W .any base t v)
    (hW : DataW.Whole enc Tryd.prog fn.params.toList sp.vars false W args.toList ds gs before) (hreach : (DataW.weightsEach Tryd.prog (fn.params.toList ++ ts) (ds ++ gs)).all (· ≤ reachBytes) = true) (hL : laidMetH Tryd.prog laid3 W) :
    Calls Tryd.prog f args W fun e W' => ∃ v, e = .returned v ∧ sp.post enc Tryd.prog fn false true false false W args v W' := by
  have hW' := hW
  obtain ⟨p, q, hA0, hV, rfl, hfz, hnd⟩ := hW
  rw [hvars] at hV
  have hA : DataW.TrodAll enc Tryd.prog W 0 (fun _ => true) true fn.params.toList args.toList ds p := hA0
  rw [hp] at hA hval hreach
  obtain ⟨v0, vs0, d0, ds0, p0, q0, hargs, rfl, rfl, h0, r0⟩ := trodAll_cons hA
  obtain ⟨v1, vs1, d1, ds1, p1, q1, hargs1, rfl, rfl, h1, r1⟩ := trodAll_cons r0
  obtain ⟨rfl, rfl, rfl⟩ := trodAll_nil r1
  obtain rfl : args = #[v0, v1] := by cases args; simp_all
  obtain ⟨rfl, rfl⟩ := trodVars_none hV
  obtain ⟨a, rfl, rfl, rfl, hsa⟩ := open_string Tryd.underlying9 (hval 0 9 v0 rfl rfl) h0
  obtain ⟨b, rfl, rfl, rfl, hsb⟩ := open_string Tryd.underlying9 (hval 1 9 v1 rfl rfl) h1
  clear hA0
  have hla : a.size ≤ 140737488351232 := by
    have := sized_string hreach (j := 0) (t := 9) (bytes := a.data.toList) rfl rfl
    rw [Array.length_toList] at this
    exact this
  have hlb : b.size ≤ 140737488351232 := by
    have := sized_string hreach (j := 1) (t := 9) (bytes := b.data.toList) rfl rfl
    rw [Array.length_toList] at this
    exact this
  refine (walk a b W hsa hsb hla hlb (tabs_of_laid hL)).mono fun e W' ⟨he, hb⟩ => ⟨_, he, ?_⟩
  refine ⟨_, _, _, [], [], [], hW', ?_, ?_, ?_, hb.frame _, fun h => by cases h⟩
  · rw [List.append_nil, hfn, hr]
    exact trodAll_cons_mk (shut_bool Tryd.underlying4 _) trodAll_mk0
  · rw [List.append_nil, hfn, hp]
    exact trodAll_cons_mk (shut_string Tryd.underlying9 hsa) (trodAll_cons_mk (shut_string Tryd.underlying9 hsb) trodAll_mk0)
  · rw [List.append_nil, hfn, hvars]
    rfl
theorem laid_met_texts (os : Os) : laidMet Tryd.prog laid3 ((laidWorld os).forCall (fun _ _ => 0) ⟨#[], #[.string ⟨#[]⟩, .string ⟨#[]⟩], []⟩).memory :=
  laidMet_of_run' 8 (by kernel_rfl) (by kernel_rfl)

set_option maxRecDepth 100000 in
theorem textInt_contract {H : Type} {enc : TypeId × Value → H} {f : FuncId} {fn : Func} {sp : ChangeSpec} {ts : List TypeId} (hp : fn.params = #[9, 3]) (hr : fn.resultTypes = #[4]) (hvars : sp.vars = [])
    (hfn : ∀ d1 d2 : DataW H, sp.fn H [d1, d2] = { results := [.lit (.bool true)], args := [d1, d2] })
    (walk : ∀ (a : ByteArray) (n : Int) (w : World), a.size ≤ maxLen → a.size ≤ 140737488351232 → (Lit.int .i64 n).wf = true → Tabs w → Calls Tryd.prog f #[.string a, .int .i64 n] w fun e w' => e = .returned (.bool true) ∧ Below w.heap.size w w')
    (W : World) (base : Nat) (args : Array Value) (ds gs : List (DataW H)) (before : List MemPlace)
    (hval : ∀ (j : Nat) t v, fn.params[j]? = some t → args[j]? = some v → Value.okWide Tryd.prog W .any base t v)
    (hW : DataW.Whole enc Tryd.prog fn.params.toList sp.vars false W args.toList ds gs before) (hreach : (DataW.weightsEach Tryd.prog (fn.params.toList ++ ts) (ds ++ gs)).all (· ≤ reachBytes) = true) (hL : laidMetH Tryd.prog laid3 W) :
    Calls Tryd.prog f args W fun e W' => ∃ v, e = .returned v ∧ sp.post enc Tryd.prog fn false true false false W args v W' := by
  have hW' := hW
  obtain ⟨p, q, hA0, hV, rfl, hfz, hnd⟩ := hW
  rw [hvars] at hV
  have hA : DataW.TrodAll enc Tryd.prog W 0 (fun _ => true) true fn.params.toList args.toList ds p := hA0
  rw [hp] at hA hval hreach
  obtain ⟨v0, vs0, d0, ds0, p0, q0, hargs, rfl, rfl, h0, r0⟩ := trodAll_cons hA
  obtain ⟨v1, vs1, d1, ds1, p1, q1, hargs1, rfl, rfl, h1, r1⟩ := trodAll_cons r0
  obtain ⟨rfl, rfl, rfl⟩ := trodAll_nil r1
  obtain rfl : args = #[v0, v1] := by cases args; simp_all
  obtain ⟨rfl, rfl⟩ := trodVars_none hV
  obtain ⟨a, rfl, rfl, rfl, hsa⟩ := open_string Tryd.underlying9 (hval 0 9 v0 rfl rfl) h0
  obtain ⟨n, rfl, rfl, rfl, hn⟩ := open_int Tryd.underlying3 (hval 1 3 v1 rfl rfl) h1
  clear hA0
  have hla : a.size ≤ 140737488351232 := by
    have := sized_string hreach (j := 0) (t := 9) (bytes := a.data.toList) rfl rfl
    rw [Array.length_toList] at this
    exact this
  refine (walk a n W hsa hla hn (tabs_of_laid hL)).mono fun e W' ⟨he, hb⟩ => ⟨_, he, ?_⟩
  refine ⟨_, _, _, [], [], [], hW', ?_, ?_, ?_, hb.frame _, fun h => by cases h⟩
  · rw [List.append_nil, hfn, hr]
    exact trodAll_cons_mk (shut_bool Tryd.underlying4 _) trodAll_mk0
  · rw [List.append_nil, hfn, hp]
    exact trodAll_cons_mk (shut_string Tryd.underlying9 hsa) (trodAll_cons_mk (shut_int Tryd.underlying3 hn) trodAll_mk0)
  · rw [List.append_nil, hfn, hvars]
    rfl
theorem laid_met_textInt (os : Os) : laidMet Tryd.prog laid3 ((laidWorld os).forCall (fun _ _ => 0) ⟨#[], #[.string ⟨#[]⟩, .int .i64 0], []⟩).memory :=
  laidMet_of_run' 8 (by kernel_rfl) (by kernel_rfl)

end Go.Proofs.YtnmpfpnldcgbaaaDoor
