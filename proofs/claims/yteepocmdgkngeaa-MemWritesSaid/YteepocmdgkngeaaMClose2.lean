/- A list of ints that came in, and the contract of a law of such a list and a list of numbers. -/
import Derived.Test.YteepocmdgkngeaaMClose
namespace Go.Proofs.Yteepocmdgkngeaa
open Go.ChangeShapes Go.WideShapes Go.ChangeAt Go.RowKit

theorem cellsInt : Try.prog.cellsOf 3 = 1 := by kernel_rfl
theorem bytesInt : Try.prog.bytesOf 3 = 8 := by kernel_rfl
theorem open_intsL {H : Type} {enc : TypeId × Value → H} {W : World} {base : Nat} {v : Value} {d : DataW H} {p : List MemPlace} (hval : Value.okWide Try.prog W .any base 53 v)
    (h : DataW.Trod enc Try.prog W 0 (fun _ => true) true 53 v d p) :
    ∃ A cap zs, v = .slice A zs.length cap ∧ NumsAt W W.heap.size A zs ∧ zs.length ≤ cap ∧ cap ≤ maxLen ∧ (cap = 0 ∨ ∃ es sp, d = .slice es sp ∧ es.length + sp.length = cap) := by
  obtain ⟨a1, len1, cap1, rfl⟩ := okWide_slice Try.underlying53 hval
  obtain ⟨fuel, hf⟩ := h
  rcases open_ints Try.underlying53 Try.underlying3 cellsInt hf with ⟨hcs, hx⟩ | ⟨b, len, cap, zs, hcs, _, hl, hm, hz, hx, hcell, hwz⟩
  · simp [Value.cells] at hcs
    obtain ⟨rfl, rfl, rfl⟩ := hcs
    exact ⟨none, 0, [], rfl, fun h => absurd h (by simp), Nat.le_refl _, Nat.zero_le _, .inl rfl⟩
  · simp [Value.cells] at hcs
    obtain ⟨rfl, rfl, rfl⟩ := hcs
    simp only [Prod.mk.injEq] at hx
    obtain ⟨rfl, rfl⟩ := hx
    simp only [if_true] at hz
    have hlen : (zs.take len1).length = len1 := by rw [List.length_take]; omega
    refine ⟨some b, cap1, zs.take len1, by rw [hlen], fun hn => ?_, by omega, hm, .inr ⟨_, _, rfl, by simp [lits]; omega⟩⟩
    rw [hlen] at hn
    obtain ⟨b', off, rfl, hc⟩ := ints_at hcell (by omega)
    refine ⟨b', off, rfl, ?_, fun i hi => ?_⟩
    · have h0 := hc 0 (by omega)
      rcases Nat.lt_or_ge b' W.heap.size with hlt | hge
      · exact hlt
      · simp [World.cell?, Array.getElem?_eq_none hge] at h0
    · rw [hlen] at hi
      rw [hc i (by omega)]
      rw [List.getD_eq_getElem?_getD, List.getD_eq_getElem?_getD, List.getElem?_take, if_pos hi]

theorem intsNums_contract {H : Type} {enc : TypeId × Value → H} {f : FuncId} {fn : Func} {sp : ChangeSpec} {ts : List TypeId} (hp : fn.params = #[53, 27]) (hr : fn.resultTypes = #[4]) (hvars : sp.vars = [])
    (hfn : ∀ d1 d2 : DataW H, sp.fn H [d1, d2] = { results := [.lit (.bool true)], args := [d1, d2] })
    (walk : ∀ (A0 : Option Addr) (cap0 : Nat) (l0 : List Int) (A1 : Option Addr) (cap1 : Nat) (l1 : List Int) (w : World), NumsAt w w.heap.size A0 l0 → l0.length ≤ cap0 → cap0 ≤ maxLen → cap0 * 8 ≤ 140737488351232 → NumsAt w w.heap.size A1 l1 → l1.length ≤ cap1 → cap1 ≤ maxLen → cap1 * 8 ≤ 140737488351232 → Calls Try.prog f #[.slice A0 l0.length cap0, .slice A1 l1.length cap1] w fun e w' => e = .returned (.bool true) ∧ Below w.heap.size w w')
    (W : World) (base : Nat) (args : Array Value) (ds gs : List (DataW H)) (before : List MemPlace)
    (hval : ∀ (j : Nat) t v, fn.params[j]? = some t → args[j]? = some v → Value.okWide Try.prog W .any base t v)
    (hW : DataW.Whole enc Try.prog fn.params.toList sp.vars false W args.toList ds gs before) (hreach : (DataW.weightsEach Try.prog (fn.params.toList ++ ts) (ds ++ gs)).all (· ≤ reachBytes) = true) :
    Calls Try.prog f args W fun e W' => ∃ v, e = .returned v ∧ sp.post enc Try.prog fn false true false false W args v W' := by
  have hW' := hW
  obtain ⟨p, q, hA0, hV, rfl, hfz, hnd⟩ := hW
  rw [hvars] at hV
  have hA : DataW.TrodAll enc Try.prog W 0 (fun _ => true) true fn.params.toList args.toList ds p := hA0
  rw [hp] at hA hval hreach
  obtain ⟨v0, vs0, dd0, ds0, pp0, q0, hargs0, rfl, rfl, h0, r0⟩ := trodAll_cons hA
  obtain ⟨v1, vs1, dd1, ds1, pp1, q1, hargs1, rfl, rfl, h1, r1⟩ := trodAll_cons r0
  obtain ⟨rfl, rfl, rfl⟩ := trodAll_nil r1
  obtain rfl : args = #[v0, v1] := by cases args; simp_all
  obtain ⟨rfl, rfl⟩ := trodVars_none hV
  obtain ⟨A0, cap0, l0, rfl, hl0, hc0, hm0, hd0⟩ := open_intsL (hval 0 53 v0 rfl rfl) h0
  have hy0 : cap0 * 8 ≤ 140737488351232 := by
    rcases hd0 with rfl | ⟨es, sp, rfl, rfl⟩
    · omega
    · have := sized_slice hreach (j := 0) (t := 53) (elems := es) (spare := sp) rfl rfl Try.underlying53
      rw [bytesInt] at this
      exact this
  obtain ⟨A1, cap1, l1, rfl, hl1, hc1, hm1, hd1⟩ := open_nums (hval 1 27 v1 rfl rfl) h1
  have hy1 : cap1 * 8 ≤ 140737488351232 := by
    rcases hd1 with rfl | ⟨es, sp, rfl, rfl⟩
    · omega
    · have := sized_slice hreach (j := 1) (t := 27) (elems := es) (spare := sp) rfl rfl Try.underlying27
      rw [bytesI64] at this
      exact this
  clear hA0
  refine (walk A0 cap0 l0 A1 cap1 l1 W hl0 hc0 hm0 hy0 hl1 hc1 hm1 hy1).mono fun e W' ⟨he, hb⟩ => ⟨_, he, ?_⟩
  refine close_post hr hvars (hfn _ _) ?_ hW' hb
  rw [hp]
  intro t ht
  have hm : t = 53 ∨ t = 27 := by simpa using ht
  rcases hm with rfl | rfl
  · exact ⟨by kernel_rfl, of_decide_eq_true (by kernel_rfl)⟩
  · exact ⟨by kernel_rfl, of_decide_eq_true (by kernel_rfl)⟩

end Go.Proofs.Yteepocmdgkngeaa
