/- How proofs and the like that came in stand in memory, where what is read is of bulk at most 1048576. -/
import Derived.Test.YtooogmppfjgdpaaCClose
namespace Go.Proofs.Ytooogmppfjgdpaa
open Go.ChangeShapes Go.WideShapes Go.ChangeAt Go.RowKit

theorem bulk_one {H : Type} (d : DataW H) : 1 ≤ Rows.uptoBulk d := by
  cases d with
  | lit l => cases l <;> simp [Rows.uptoBulk]
  | nil => simp [Rows.uptoBulk]
  | ptr d => simp [Rows.uptoBulk]
  | slice elems spare => simp [Rows.uptoBulk]
  | agg parts => simp [Rows.uptoBulk]
  | iface t d => simp [Rows.uptoBulk]
  | map entries => simp [Rows.uptoBulk]
  | held h => simp [Rows.uptoBulk]
theorem bulk_part {H : Type} {d : DataW H} {l : List (DataW H)} (h : d ∈ l) : Rows.uptoBulk d ≤ Rows.uptoBulkAll l := by
  induction l with
  | nil => cases h
  | cons x r ih =>
    simp only [Rows.uptoBulkAll]
    cases List.mem_cons.1 h with
    | inl e => subst e; omega
    | inr e => have := ih e; omega
theorem bulk_len {H : Type} (l : List (DataW H)) : l.length ≤ Rows.uptoBulkAll l := by
  induction l with
  | nil => simp [Rows.uptoBulkAll]
  | cons x r ih => have := bulk_one x; simp only [Rows.uptoBulkAll, List.length_cons]; omega
theorem upto_bound {H : Type} {l : List (DataW H)} (hk : Rows.uptoSmall H l = true) : Rows.uptoBulkAll l ≤ 1048576 := of_decide_eq_true hk
theorem upto_part {H : Type} {l : List (DataW H)} (hk : Rows.uptoBulkAll l ≤ 1048576) (i : Nat) {d : DataW H} (h : l[i]? = some d) : Rows.uptoBulk d ≤ 1048576 := Nat.le_trans (bulk_part (List.mem_of_getElem? h)) hk

theorem nums_cells {H : Type} {enc : TypeId × Value → H} {W : World} {t e : TypeId} {fuel : Nat} {cs : List Value} {x : DataW H × List MemPlace} (ht : Try.prog.underlying t = some (.slice e)) (he : Try.prog.underlying e = some (.int .i64)) (hc : Try.prog.cellsOf e = 1)
    (h : DataW.trod enc Try.prog W 0 (fun _ => true) true fuel t cs = some x) : ∃ A cap zs, cs = [.slice A zs.length cap] ∧ NumsAt W W.heap.size A zs ∧ zs.length ≤ Rows.uptoBulk x.1 := by
  rcases open_ints ht he hc h with ⟨hcs, hx⟩ | ⟨b, len, cap, zs, hcs, _, hl, hm, hz, hx, hcell, hwz⟩
  · exact ⟨none, 0, [], hcs, fun h => absurd h (by simp), Nat.zero_le _⟩
  · simp only [if_true] at hz
    have hlen : (zs.take len).length = len := by rw [List.length_take]; omega
    refine ⟨some b, cap, zs.take len, by rw [hlen]; exact hcs, fun hn => ?_, ?_⟩
    · rw [hlen] at hn
      obtain ⟨b', off, rfl, hc⟩ := ints_at hcell (by omega)
      refine ⟨b', off, rfl, ?_, fun i hi => ?_⟩
      · have h0 := hc 0 (by omega)
        rcases Nat.lt_or_ge b' W.heap.size with hlt | hge
        · exact hlt
        · simp [World.cell?, Array.getElem?_eq_none hge] at h0
      · rw [hlen] at hi
        rw [hc i (by omega)]
        rw [List.getD_eq_getElem?_getD, List.getD_eq_getElem?_getD, List.getElem?_take, if_pos hi]
    · rw [hx]
      simp only [Rows.uptoBulk]
      have := bulk_len (lits (H := H) IntKind.i64 (zs.take len))
      rw [show (lits (H := H) IntKind.i64 (zs.take len)).length = (zs.take len).length by simp [lits]] at this
      omega

theorem cellsProof : Try.prog.cellsOf 37 = 3 := by kernel_rfl
theorem cellsBoth : Try.prog.cellsOf 50 = 2 := by kernel_rfl
theorem cellsBool : Try.prog.cellsOf 4 = 1 := by kernel_rfl
theorem cellsInts : Try.prog.cellsOf 22 = 1 := by kernel_rfl
theorem cellsNums : Try.prog.cellsOf 30 = 1 := by kernel_rfl
theorem two {cs : List Value} (h : cs.length = 2) : ∃ a b, cs = [a, b] := by
  match cs, h with
  | [a, b], _ => exact ⟨a, b, rfl⟩

theorem open_proof {H : Type} {enc : TypeId × Value → H} {W : World} {base : Nat} {v : Value} {d : DataW H} {p : List MemPlace} (hval : Value.okWide Try.prog W .any base 37 v)
    (h : DataW.Trod enc Try.prog W 0 (fun _ => true) true 37 v d p) (hk : Rows.uptoBulk d ≤ 1048576) :
    ∃ (p : Pf) (AC : Option Addr) (cC : Nat) (AN : Option Addr) (cN : Nat), v = .agg #[.bool p.yes, .slice AC p.cyc.length cC, .slice AN p.nums.length cN] ∧ PfAt W AC AN p := by
  obtain ⟨cs, rfl, _⟩ := okWide_struct Try.underlying37 hval
  obtain ⟨fuel, hf⟩ := h
  obtain ⟨xs, n, _, hx, hcl, hxl, hfd⟩ := DataW.trod_struct Try.underlying37 hf
  obtain ⟨l⟩ := cs
  rw [cellsProof] at hcl
  change l.length = 3 at hcl
  obtain ⟨a, b, c, rfl⟩ := three hcl
  have h0 := hfd 0 _ rfl
  have h1 := hfd 1 _ rfl
  have h2 := hfd 2 _ rfl
  have l0 : 0 < xs.length := by rw [hxl]; decide
  have l1 : 1 < xs.length := by rw [hxl]; decide
  have l2 : 2 < xs.length := by rw [hxl]; decide
  rw [List.getElem?_eq_getElem l0] at h0
  rw [List.getElem?_eq_getElem l1] at h1
  rw [List.getElem?_eq_getElem l2] at h2
  change DataW.trod enc Try.prog W 0 _ true n 4 (List.take (Try.prog.cellsOf 4) (List.drop 0 [a, b, c])) = _ at h0
  change DataW.trod enc Try.prog W 0 _ true n 22 (List.take (Try.prog.cellsOf 22) (List.drop 1 [a, b, c])) = _ at h1
  change DataW.trod enc Try.prog W 0 _ true n 30 (List.take (Try.prog.cellsOf 30) (List.drop 2 [a, b, c])) = _ at h2
  rw [cellsBool] at h0
  rw [cellsInts] at h1
  rw [cellsNums] at h2
  obtain ⟨y, e0, _⟩ := DataW.trod_bool Try.underlying4 h0
  obtain ⟨AC, cC, zc, e1, hc1, hb1⟩ := nums_cells Try.underlying22 Try.underlying3 cellsInt h1
  obtain ⟨AN, cN, zn, e2, hc2, hb2⟩ := nums_cells Try.underlying30 Try.underlying2 cellsI64 h2
  simp at e0 e1 e2
  have hd : d = .agg (xs.map (·.1)) := congrArg Prod.fst hx
  have hbk : Rows.uptoBulkAll (xs.map (·.1)) + 1 ≤ 1048576 := by rw [hd] at hk; simpa only [Rows.uptoBulk] using hk
  have k1 := bulk_part (List.mem_map_of_mem (f := (·.1)) (List.getElem_mem l1))
  have k2 := bulk_part (List.mem_map_of_mem (f := (·.1)) (List.getElem_mem l2))
  refine ⟨⟨y, zc, zn⟩, AC, cC, AN, cN, by rw [e0, e1, e2], hc1, hc2, ?_, ?_⟩
  · show zc.length ≤ _
    omega
  · show zn.length ≤ _
    unfold maxLen
    omega

theorem open_both {H : Type} {enc : TypeId × Value → H} {W : World} {base : Nat} {v : Value} {d : DataW H} {p : List MemPlace} (hval : Value.okWide Try.prog W .any base 50 v)
    (h : DataW.Trod enc Try.prog W 0 (fun _ => true) true 50 v d p) (hk : Rows.uptoBulk d ≤ 1048576) :
    ∃ (p : Pf) (AC : Option Addr) (cC : Nat) (AN : Option Addr) (cN : Nat), v = .agg #[.slice AC p.cyc.length cC, .slice AN p.nums.length cN] ∧ PfAt W AC AN p := by
  obtain ⟨cs, rfl, _⟩ := okWide_struct Try.underlying50 hval
  obtain ⟨fuel, hf⟩ := h
  obtain ⟨xs, n, _, hx, hcl, hxl, hfd⟩ := DataW.trod_struct Try.underlying50 hf
  obtain ⟨l⟩ := cs
  rw [cellsBoth] at hcl
  change l.length = 2 at hcl
  obtain ⟨b, c, rfl⟩ := two hcl
  have h1 := hfd 0 _ rfl
  have h2 := hfd 1 _ rfl
  have l1 : 0 < xs.length := by rw [hxl]; decide
  have l2 : 1 < xs.length := by rw [hxl]; decide
  rw [List.getElem?_eq_getElem l1] at h1
  rw [List.getElem?_eq_getElem l2] at h2
  change DataW.trod enc Try.prog W 0 _ true n 22 (List.take (Try.prog.cellsOf 22) (List.drop 0 [b, c])) = _ at h1
  change DataW.trod enc Try.prog W 0 _ true n 30 (List.take (Try.prog.cellsOf 30) (List.drop 1 [b, c])) = _ at h2
  rw [cellsInts] at h1
  rw [cellsNums] at h2
  obtain ⟨AC, cC, zc, e1, hc1, hb1⟩ := nums_cells Try.underlying22 Try.underlying3 cellsInt h1
  obtain ⟨AN, cN, zn, e2, hc2, hb2⟩ := nums_cells Try.underlying30 Try.underlying2 cellsI64 h2
  simp at e1 e2
  have hd : d = .agg (xs.map (·.1)) := congrArg Prod.fst hx
  have hbk : Rows.uptoBulkAll (xs.map (·.1)) + 1 ≤ 1048576 := by rw [hd] at hk; simpa only [Rows.uptoBulk] using hk
  have k1 := bulk_part (List.mem_map_of_mem (f := (·.1)) (List.getElem_mem l1))
  have k2 := bulk_part (List.mem_map_of_mem (f := (·.1)) (List.getElem_mem l2))
  refine ⟨⟨true, zc, zn⟩, AC, cC, AN, cN, by rw [e1, e2], hc1, hc2, ?_, ?_⟩
  · show zc.length ≤ _
    omega
  · show zn.length ≤ _
    unfold maxLen
    omega

theorem proof_contract {H : Type} {enc : TypeId × Value → H} {f : FuncId} {fn : Func} {sp : ChangeSpec} {ts : List TypeId} (hp : fn.params = #[37, 35, 23]) (hr : fn.resultTypes = #[4]) (hvars : sp.vars = [])
    (hfn : ∀ d1 d2 d3 : DataW H, sp.fn H [d1, d2, d3] = { results := [.lit (.bool true)], args := [d1, d2, d3] })
    (walk : ∀ (p0 : Pf) (AC0 : Option Addr) (cC0 : Nat) (AN0 : Option Addr) (cN0 : Nat) (g1 : F) (A2 : Option Addr) (cap2 : Nat) (l2 : List F) (w : World), PfAt w AC0 AN0 p0 → FactsAt w w.heap.size A2 l2 → l2.length ≤ cap2 → cap2 ≤ maxLen → cap2 * 24 ≤ 140737488351232 → Calls Try.prog f #[.agg #[.bool p0.yes, .slice AC0 p0.cyc.length cC0, .slice AN0 p0.nums.length cN0], .agg #[.int .i64 g1.x, .int .i64 g1.y, .int .i64 g1.c], .slice A2 l2.length cap2] w fun e w' => e = .returned (.bool true) ∧ Below w.heap.size w w')
    (W : World) (base : Nat) (args : Array Value) (ds gs : List (DataW H)) (before : List MemPlace)
    (hval : ∀ (j : Nat) t v, fn.params[j]? = some t → args[j]? = some v → Value.okWide Try.prog W .any base t v)
    (hW : DataW.Whole enc Try.prog fn.params.toList sp.vars false W args.toList ds gs before) (hreach : (DataW.weightsEach Try.prog (fn.params.toList ++ ts) (ds ++ gs)).all (· ≤ reachBytes) = true) (hk0 : Rows.uptoSmall H (ds ++ gs) = true) :
    Calls Try.prog f args W fun e W' => ∃ v, e = .returned v ∧ sp.post enc Try.prog fn false true false false W args v W' := by
  have hW' := hW
  obtain ⟨p, q, hA0, hV, rfl, hfz, hnd⟩ := hW
  rw [hvars] at hV
  have hA : DataW.TrodAll enc Try.prog W 0 (fun _ => true) true fn.params.toList args.toList ds p := hA0
  rw [hp] at hA hval hreach
  obtain ⟨v0, vs0, dd0, ds0, pp0, q0, hargs0, rfl, rfl, h0, r0⟩ := trodAll_cons hA
  obtain ⟨v1, vs1, dd1, ds1, pp1, q1, hargs1, rfl, rfl, h1, r1⟩ := trodAll_cons r0
  obtain ⟨v2, vs2, dd2, ds2, pp2, q2, hargs2, rfl, rfl, h2, r2⟩ := trodAll_cons r1
  obtain ⟨rfl, rfl, rfl⟩ := trodAll_nil r2
  obtain rfl : args = #[v0, v1, v2] := by cases args; simp_all
  obtain ⟨rfl, rfl⟩ := trodVars_none hV
  have hk := upto_bound hk0
  rw [List.append_nil] at hk
  obtain ⟨p0, AC0, cC0, AN0, cN0, rfl, hp0⟩ := open_proof (hval 0 37 v0 rfl rfl) h0 (upto_part hk 0 rfl)
  obtain ⟨g1, rfl⟩ := open_leq (hval 1 35 v1 rfl rfl) h1
  obtain ⟨A2, cap2, l2, rfl, hl2, hc2, hm2, hd2⟩ := open_facts (hval 2 23 v2 rfl rfl) h2
  have hy2 : cap2 * 24 ≤ 140737488351232 := by
    rcases hd2 with rfl | ⟨es, sp, rfl, rfl⟩
    · omega
    · have := sized_slice hreach (j := 2) (t := 23) (elems := es) (spare := sp) rfl rfl Try.underlying23
      rw [bytesLeq] at this
      exact this
  clear hA0
  refine (walk p0 AC0 cC0 AN0 cN0 g1 A2 cap2 l2 W hp0  hl2 hc2 hm2 hy2).mono fun e W' ⟨he, hb⟩ => ⟨_, he, ?_⟩
  refine close_post hr hvars (hfn _ _ _) ?_ hW' hb
  rw [hp]
  intro t ht
  have hm : t = 37 ∨ t = 35 ∨ t = 23 := by simpa using ht
  rcases hm with rfl | rfl | rfl
  · exact ⟨by kernel_rfl, of_decide_eq_true (by kernel_rfl)⟩
  · exact ⟨by kernel_rfl, of_decide_eq_true (by kernel_rfl)⟩
  · exact ⟨by kernel_rfl, of_decide_eq_true (by kernel_rfl)⟩

theorem both_contract {H : Type} {enc : TypeId × Value → H} {f : FuncId} {fn : Func} {sp : ChangeSpec} {ts : List TypeId} (hp : fn.params = #[50, 35, 23]) (hr : fn.resultTypes = #[4]) (hvars : sp.vars = [])
    (hfn : ∀ d1 d2 d3 : DataW H, sp.fn H [d1, d2, d3] = { results := [.lit (.bool true)], args := [d1, d2, d3] })
    (walk : ∀ (p0 : Pf) (AC0 : Option Addr) (cC0 : Nat) (AN0 : Option Addr) (cN0 : Nat) (g1 : F) (A2 : Option Addr) (cap2 : Nat) (l2 : List F) (w : World), PfAt w AC0 AN0 p0 → FactsAt w w.heap.size A2 l2 → l2.length ≤ cap2 → cap2 ≤ maxLen → cap2 * 24 ≤ 140737488351232 → Calls Try.prog f #[.agg #[.slice AC0 p0.cyc.length cC0, .slice AN0 p0.nums.length cN0], .agg #[.int .i64 g1.x, .int .i64 g1.y, .int .i64 g1.c], .slice A2 l2.length cap2] w fun e w' => e = .returned (.bool true) ∧ Below w.heap.size w w')
    (W : World) (base : Nat) (args : Array Value) (ds gs : List (DataW H)) (before : List MemPlace)
    (hval : ∀ (j : Nat) t v, fn.params[j]? = some t → args[j]? = some v → Value.okWide Try.prog W .any base t v)
    (hW : DataW.Whole enc Try.prog fn.params.toList sp.vars false W args.toList ds gs before) (hreach : (DataW.weightsEach Try.prog (fn.params.toList ++ ts) (ds ++ gs)).all (· ≤ reachBytes) = true) (hk0 : Rows.uptoSmall H (ds ++ gs) = true) :
    Calls Try.prog f args W fun e W' => ∃ v, e = .returned v ∧ sp.post enc Try.prog fn false true false false W args v W' := by
  have hW' := hW
  obtain ⟨p, q, hA0, hV, rfl, hfz, hnd⟩ := hW
  rw [hvars] at hV
  have hA : DataW.TrodAll enc Try.prog W 0 (fun _ => true) true fn.params.toList args.toList ds p := hA0
  rw [hp] at hA hval hreach
  obtain ⟨v0, vs0, dd0, ds0, pp0, q0, hargs0, rfl, rfl, h0, r0⟩ := trodAll_cons hA
  obtain ⟨v1, vs1, dd1, ds1, pp1, q1, hargs1, rfl, rfl, h1, r1⟩ := trodAll_cons r0
  obtain ⟨v2, vs2, dd2, ds2, pp2, q2, hargs2, rfl, rfl, h2, r2⟩ := trodAll_cons r1
  obtain ⟨rfl, rfl, rfl⟩ := trodAll_nil r2
  obtain rfl : args = #[v0, v1, v2] := by cases args; simp_all
  obtain ⟨rfl, rfl⟩ := trodVars_none hV
  have hk := upto_bound hk0
  rw [List.append_nil] at hk
  obtain ⟨p0, AC0, cC0, AN0, cN0, rfl, hp0⟩ := open_both (hval 0 50 v0 rfl rfl) h0 (upto_part hk 0 rfl)
  obtain ⟨g1, rfl⟩ := open_leq (hval 1 35 v1 rfl rfl) h1
  obtain ⟨A2, cap2, l2, rfl, hl2, hc2, hm2, hd2⟩ := open_facts (hval 2 23 v2 rfl rfl) h2
  have hy2 : cap2 * 24 ≤ 140737488351232 := by
    rcases hd2 with rfl | ⟨es, sp, rfl, rfl⟩
    · omega
    · have := sized_slice hreach (j := 2) (t := 23) (elems := es) (spare := sp) rfl rfl Try.underlying23
      rw [bytesLeq] at this
      exact this
  clear hA0
  refine (walk p0 AC0 cC0 AN0 cN0 g1 A2 cap2 l2 W hp0  hl2 hc2 hm2 hy2).mono fun e W' ⟨he, hb⟩ => ⟨_, he, ?_⟩
  refine close_post hr hvars (hfn _ _ _) ?_ hW' hb
  rw [hp]
  intro t ht
  have hm : t = 50 ∨ t = 35 ∨ t = 23 := by simpa using ht
  rcases hm with rfl | rfl | rfl
  · exact ⟨by kernel_rfl, of_decide_eq_true (by kernel_rfl)⟩
  · exact ⟨by kernel_rfl, of_decide_eq_true (by kernel_rfl)⟩
  · exact ⟨by kernel_rfl, of_decide_eq_true (by kernel_rfl)⟩

end Go.Proofs.Ytooogmppfjgdpaa
