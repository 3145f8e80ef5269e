/- How a list of numbers that came in stands in memory, and a law of one such list. -/
import Derived.Test.YtejnjaikalckiaaDClose
import Derived.ChangeSlices
namespace Go.Proofs.Ytejnjaikalckiaa
open Go.ChangeShapes Go.WideShapes Go.ChangeAt Go.RowKit

theorem bytesI64 : Try.prog.bytesOf 2 = 8 := by kernel_rfl

set_option maxRecDepth 100000 in
theorem open_nums {H : Type} {enc : TypeId × Value → H} {W : World} {base : Nat} {v : Value} {d : DataW H} {p : List MemPlace} (hval : Value.okWide Try.prog W .any base 54 v)
    (h : DataW.Trod enc Try.prog W 0 (fun _ => true) true 54 v d p) :
    ∃ A cap zs, v = .slice A zs.length cap ∧ NumsAt W W.heap.size A zs ∧ zs.length ≤ cap ∧ cap ≤ maxLen ∧ (cap = 0 ∨ ∃ es sp, d = .slice es sp ∧ es.length + sp.length = cap) := by
  obtain ⟨a1, len1, cap1, rfl⟩ := okWide_slice Try.underlying54 hval
  obtain ⟨fuel, hf⟩ := h
  rcases open_ints Try.underlying54 Try.underlying2 cellsI64 hf with ⟨hcs, hx⟩ | ⟨b, len, cap, zs, hcs, _, hl, hm, hz, hx, hcell, hwz⟩
  · simp [Value.cells] at hcs
    obtain ⟨rfl, rfl, rfl⟩ := hcs
    exact ⟨none, 0, [], rfl, fun h => absurd h (by simp), Nat.le_refl _, Nat.zero_le _, .inl rfl⟩
  · simp [Value.cells] at hcs
    obtain ⟨rfl, rfl, rfl⟩ := hcs
    simp only [Prod.mk.injEq] at hx
    obtain ⟨rfl, rfl⟩ := hx
    simp only [if_true] at hz
    have hlen : (zs.take len1).length = len1 := by rw [List.length_take]; omega
    refine ⟨some b, cap1, zs.take len1, by rw [hlen], fun hn => ?_, by omega, hm, .inr ⟨_, _, rfl, by simp [lits]; omega⟩⟩
    rw [hlen] at hn
    obtain ⟨b', off, rfl, hc⟩ := ints_at hcell (by omega)
    refine ⟨b', off, rfl, ?_, fun i hi => ?_⟩
    · have h0 := hc 0 (by omega)
      rcases Nat.lt_or_ge b' W.heap.size with hlt | hge
      · exact hlt
      · simp [World.cell?, Array.getElem?_eq_none hge] at h0
    · rw [hlen] at hi
      rw [hc i (by omega)]
      rw [List.getD_eq_getElem?_getD, List.getD_eq_getElem?_getD, List.getElem?_take, if_pos hi]

/- A law of a list of numbers. -/
set_option maxRecDepth 100000 in
theorem nums_contract {H : Type} {enc : TypeId × Value → H} {f : FuncId} {fn : Func} {sp : ChangeSpec} {ts : List TypeId} (hp : fn.params = #[54]) (hr : fn.resultTypes = #[4]) (hvars : sp.vars = [])
    (hfn : ∀ d1 : DataW H, sp.fn H [d1] = { results := [.lit (.bool true)], args := [d1] })
    (walk : ∀ (A : Option Addr) (cap : Nat) (zs : List Int) (w : World), NumsAt w w.heap.size A zs → zs.length ≤ cap → cap ≤ maxLen → cap * 8 ≤ 140737488351232 → Calls Try.prog f #[.slice A zs.length cap] w fun e w' => e = .returned (.bool true) ∧ Below w.heap.size w w')
    (W : World) (base : Nat) (args : Array Value) (ds gs : List (DataW H)) (before : List MemPlace)
    (hval : ∀ (j : Nat) t v, fn.params[j]? = some t → args[j]? = some v → Value.okWide Try.prog W .any base t v)
    (hW : DataW.Whole enc Try.prog fn.params.toList sp.vars false W args.toList ds gs before) (hreach : (DataW.weightsEach Try.prog (fn.params.toList ++ ts) (ds ++ gs)).all (· ≤ reachBytes) = true) :
    Calls Try.prog f args W fun e W' => ∃ v, e = .returned v ∧ sp.post enc Try.prog fn false true false false W args v W' := by
  have hW' := hW
  obtain ⟨p, q, hA0, hV, rfl, hfz, hnd⟩ := hW
  rw [hvars] at hV
  have hA : DataW.TrodAll enc Try.prog W 0 (fun _ => true) true fn.params.toList args.toList ds p := hA0
  rw [hp] at hA hval hreach
  obtain ⟨v0, vs0, d0, ds0, p0, q0, hargs, rfl, rfl, h0, r0⟩ := trodAll_cons hA
  obtain ⟨rfl, rfl, rfl⟩ := trodAll_nil r0
  obtain rfl : args = #[v0] := by cases args; simp_all
  obtain ⟨rfl, rfl⟩ := trodVars_none hV
  obtain ⟨A, cap, zs, rfl, hzs, hcap, hcm, hd⟩ := open_nums (hval 0 54 v0 rfl rfl) h0
  have hby : cap * 8 ≤ 140737488351232 := by
    rcases hd with rfl | ⟨es, sp, rfl, rfl⟩
    · omega
    · have := sized_slice hreach (j := 0) (t := 54) (elems := es) (spare := sp) rfl rfl Try.underlying54
      rw [bytesI64] at this
      exact this
  clear hA0
  refine (walk A cap zs W hzs hcap hcm hby).mono fun e W' ⟨he, hb⟩ => ⟨_, he, ?_⟩
  refine close_post hr hvars (hfn _) ?_ hW' hb
  rw [hp]
  intro t ht
  have hm : t = 54 := by simpa using ht
  subst hm
  exact ⟨by kernel_rfl, of_decide_eq_true (by kernel_rfl)⟩

end Go.Proofs.Ytejnjaikalckiaa
