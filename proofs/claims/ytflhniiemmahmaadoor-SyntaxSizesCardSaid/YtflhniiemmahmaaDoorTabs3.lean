/- From the walk of a law of a text and a list of numbers to what its row asks of a call. -/
import Derived.Test.YtflhniiemmahmaaDoorTabs
import Derived.ChangeSlices
namespace Go.Proofs.YtflhniiemmahmaaDoor
open Go.ChangeShapes Go.WideShapes Go.ChangeAt Go.ChangeMaps Go.RowKit

/- A list of numbers that came in: how it stands in memory. -/
def IntsAt (w : World) (v : Value) (zs : List Int) : Prop :=
  (∃ a cap, v = .slice a 0 cap ∧ zs = [] ∧ cap ≤ maxLen ∧ (a = none → cap = 0)) ∨
  (∃ b off cap, v = .slice (some ⟨b, off, none⟩) zs.length cap ∧ 0 < zs.length ∧ b < w.heap.size ∧ zs.length ≤ cap ∧ cap ≤ maxLen ∧ ∀ i, i < zs.length → w.cell? ⟨b, off + i, none⟩ = some (.int .i64 (zs.getD i 0)))

theorem cInt : Tryd.prog.cellsOf 3 = 1 := by kernel_rfl

set_option maxRecDepth 100000 in
theorem textInts_contract {H : Type} {enc : TypeId × Value → H} {f : FuncId} {fn : Func} {sp : ChangeSpec} (hp : fn.params = #[9, 38]) (hr : fn.resultTypes = #[4]) (hvars : sp.vars = [])
    (hfn : ∀ d1 d2 : DataW H, sp.fn H [d1, d2] = { results := [.lit (.bool true)], args := [d1, d2] })
    (walk : ∀ (a : ByteArray) (v : Value) (zs : List Int) (w : World), a.size ≤ maxLen → IntsAt w v zs → Tabs w → Calls Tryd.prog f #[.string a, v] w fun e w' => e = .returned (.bool true) ∧ Below w.heap.size w w')
    (W : World) (base : Nat) (args : Array Value) (ds gs : List (DataW H)) (before : List MemPlace)
    (hval : ∀ (j : Nat) t v, fn.params[j]? = some t → args[j]? = some v → Value.okWide Tryd.prog W .any base t v)
    (hW : DataW.Whole enc Tryd.prog fn.params.toList sp.vars false W args.toList ds gs before) (hL : laidMetH Tryd.prog laid3 W) :
    Calls Tryd.prog f args W fun e W' => ∃ v, e = .returned v ∧ sp.post enc Tryd.prog fn false true false false W args v W' := by
  have hW' := hW
  obtain ⟨p, q, hA0, hV, rfl, hfz, hnd⟩ := hW
  rw [hvars] at hV
  have hA : DataW.TrodAll enc Tryd.prog W 0 (fun _ => true) true fn.params.toList args.toList ds p := hA0
  rw [hp] at hA hval
  obtain ⟨v0, vs0, d0, ds0, p0, q0, hargs, rfl, rfl, h0, r0⟩ := trodAll_cons hA
  obtain ⟨v1, vs1, d1, ds1, p1, q1, hargs1, rfl, rfl, h1, r1⟩ := trodAll_cons r0
  obtain ⟨rfl, rfl, rfl⟩ := trodAll_nil r1
  obtain rfl : args = #[v0, v1] := by cases args; simp_all
  obtain ⟨rfl, rfl⟩ := trodVars_none hV
  obtain ⟨a, rfl, rfl, rfl, hsa⟩ := open_string Tryd.underlying9 (hval 0 9 v0 rfl rfl) h0
  obtain ⟨a1, len1, cap1, rfl⟩ := okWide_slice Tryd.underlying38 (hval 1 38 v1 rfl rfl)
  clear hA0
  obtain ⟨fuel, hf⟩ := h1
  rcases open_ints Tryd.underlying38 Tryd.underlying3 cInt hf with ⟨hcs, hx⟩ | ⟨b, len, cap, zs, hcs, _, hl, hm, hz, hx, hcell, hwz⟩
  · simp [Value.cells] at hcs
    obtain ⟨rfl, rfl, rfl⟩ := hcs
    simp only [Prod.mk.injEq] at hx
    obtain ⟨rfl, rfl⟩ := hx
    refine (walk a _ [] W hsa (.inl ⟨none, 0, rfl, rfl, Nat.zero_le _, fun _ => rfl⟩) (tabs_of_laid hL)).mono fun e W' ⟨he, hb⟩ => ⟨_, he, ?_⟩
    refine ⟨_, _, _, [], [], [], hW', ?_, ?_, ?_, hb.frame _, fun h => by cases h⟩
    · rw [List.append_nil, hfn, hr]
      exact trodAll_cons_mk (shut_bool Tryd.underlying4 _) trodAll_mk0
    · rw [List.append_nil, hfn, hp]
      exact trodAll_cons_mk (shut_string Tryd.underlying9 hsa) (trodAll_cons_mk (shut_slice_nil Tryd.underlying38) trodAll_mk0)
    · rw [List.append_nil, hfn, hvars]
      rfl
  · simp [Value.cells] at hcs
    obtain ⟨rfl, rfl, rfl⟩ := hcs
    simp only [Prod.mk.injEq] at hx
    obtain ⟨rfl, rfl⟩ := hx
    simp only [if_true] at hz
    have hin : IntsAt W (.slice (some b) len1 cap1) (zs.take len1) := by
      by_cases h0 : len1 = 0
      · subst h0
        exact .inl ⟨_, _, rfl, by simp, hm, fun h => by cases h⟩
      · obtain ⟨b', off, rfl, hc⟩ := ints_at hcell (by omega)
        have hlen : (zs.take len1).length = len1 := by rw [List.length_take]; omega
        refine .inr ⟨b', off, cap1, by rw [hlen], by omega, cell_lt (hc 0 (by omega)), by omega, hm, fun i hi => ?_⟩
        rw [hlen] at hi
        rw [hc i (by omega)]
        rw [List.getD_eq_getElem?_getD, List.getD_eq_getElem?_getD, List.getElem?_take, if_pos hi]
    refine (walk a _ _ W hsa hin (tabs_of_laid hL)).mono fun e W' ⟨he, hb⟩ => ⟨_, he, ?_⟩
    have hcell' : ∀ i, i < zs.length → W'.cell? (b.add i) = some (.int .i64 (zs.getD i 0)) := fun i hi => by
      have h1 := hcell i hi
      have hlt : (b.add i).block < W.heap.size := by
        obtain ⟨b', off, rfl, hc⟩ := ints_at hcell (by omega)
        have := cell_lt (hc 0 (by omega))
        rw [Addr.add_mid]; exact this
      rw [hb.cell hlt]
      exact h1
    have hsp : ∀ spare : Nat → Bool, (∀ p ∈ MemPlace.row b zs.length, spare p.block = true) → DataW.Trod enc Tryd.prog W' 0 spare true 38 (.slice (some b) len1 cap1) (.slice (lits .i64 (zs.take len1)) (lits .i64 (zs.drop len1))) (MemPlace.row b zs.length) := by
      intro spare hs
      by_cases hz0 : zs.length = 0
      · have hc0 : cap1 = 0 := by omega
        have hl0 : len1 = 0 := by omega
        subst hc0; subst hl0
        have t0 := shut_ints (enc := enc) (w := W') (base := 0) (spare := spare) (held := true) (a := b) (len := 0) (cap := 0) (zs := zs) 0 Tryd.underlying38 Tryd.underlying3 cInt (Nat.zero_le _) (Nat.le_refl _) hm (by simp [hz0]) hcell' hwz
        exact ⟨2, by simpa [Value.cells] using t0⟩
      · have hspb : spare b.block = true := hs (.cell b.block b.off) (MemPlace.mem_row.2 ⟨0, by omega, by simp⟩)
        have t0 := shut_ints (enc := enc) (w := W') (base := 0) (spare := spare) (held := true) (a := b) (len := len1) (cap := cap1) (zs := zs) 0 Tryd.underlying38 Tryd.underlying3 cInt (Nat.zero_le _) hl hm (by simp [hspb, hz]) hcell' hwz
        exact ⟨2, by simpa [Value.cells] using t0⟩
    have hlt : ∀ p ∈ MemPlace.row b zs.length, p.block < W.heap.size := fun p hp => hW'.lt p (by simpa using hp)
    refine ⟨_, _, _, [], [] ++ (MemPlace.row b zs.length ++ []), [], hW', ?_, ?_, ?_, World.keptBut_mono (fun p hp => ⟨hp, .inr ?_⟩) (hb.frame (· ∈ _)), fun h => by cases h⟩
    · rw [List.append_nil, hfn, hr]
      exact trodAll_cons_mk (shut_bool Tryd.underlying4 _) trodAll_mk0
    · rw [List.append_nil, hfn, hp]
      exact trodAll_cons_mk (shut_string Tryd.underlying9 hsa) (trodAll_cons_mk (hsp _ (fun p hp => by simpa using hlt p hp)) trodAll_mk0)
    · rw [List.append_nil, hfn, hvars]
      rfl
    · simpa using hp
theorem laid_met_textInts (os : Os) : laidMet Tryd.prog laid3 ((laidWorld os).forCall (fun _ _ => 0) ⟨#[], #[.string ⟨#[]⟩, .slice none 0 0], []⟩).memory :=
  laidMet_of_run' 8 (by kernel_rfl) (by kernel_rfl)

end Go.Proofs.YtflhniiemmahmaaDoor
