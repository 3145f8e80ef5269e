/- Proved here: for every list of numbers that lychgatelaw04.DiffChain is called with, in every memory, the call returns true and its argument reads as before. No conditions. -/
import Derived.Test.YtpoohappocehdaaDNums
namespace Go.Proofs.Ytpoohappocehdaa
open Go.ChangeShapes Go.WideShapes Go.ChangeAt Go.RowKit

def clampC (z : Int) : Int := max (-1073741824) (min z 1073741824)
theorem clampC_bd (z : Int) : -1073741824 ≤ clampC z ∧ clampC z ≤ 1073741824 := by unfold clampC; omega
def chainF (zs : List Int) (i : Nat) : F := ⟨i, (i : Int) + 1, clampC (zs.getD i 0)⟩
def chain (zs : List Int) (k : Nat) : List F := (List.range k).map (chainF zs)
def pre (zs : List Int) : Nat → Int
  | 0 => 0
  | k + 1 => pre zs k + clampC (zs.getD k 0)
theorem pre_bd (zs : List Int) : ∀ k : Nat, -1073741824 * (k : Int) ≤ pre zs k ∧ pre zs k ≤ 1073741824 * (k : Int)
  | 0 => by simp [pre]
  | k + 1 => by
    have h := pre_bd zs k
    have h2 := clampC_bd (zs.getD k 0)
    show -1073741824 * ((k + 1 : Nat) : Int) ≤ pre zs k + clampC (zs.getD k 0) ∧ pre zs k + clampC (zs.getD k 0) ≤ 1073741824 * ((k + 1 : Nat) : Int)
    omega
theorem chain_len (zs : List Int) (k : Nat) : (chain zs k).length = k := by simp [chain]
theorem chain_succ (zs : List Int) (k : Nat) : chain zs (k + 1) = chain zs k ++ [chainF zs k] := by simp [chain, List.range_succ]
theorem chain_mem {zs : List Int} {k : Nat} {f : F} (h : f ∈ chain zs k) : ∃ i, i < k ∧ f = chainF zs i := by
  unfold chain at h
  obtain ⟨i, hi, rfl⟩ := List.mem_map.1 h
  exact ⟨i, by simpa using hi, rfl⟩
theorem chain_hold {zs : List Int} {v : Nat → Int} {i : Nat} : Hold v (chainF zs i) ↔ v i - v (i + 1) ≤ clampC (zs.getD i 0) := by
  unfold Hold chainF
  have e1 : ((i : Int)).toNat = i := by omega
  have e2 : ((i : Int) + 1).toNat = i + 1 := by omega
  simp only [e1, e2]
theorem chain_sol {zs : List Int} {v : Nat → Int} {k : Nat} (h : ∀ i, i < k → v i - v (i + 1) ≤ clampC (zs.getD i 0)) : Sol (chain zs k) v := by
  intro f hf
  obtain ⟨i, hi, rfl⟩ := chain_mem hf
  exact chain_hold.2 (h i hi)

theorem chain_yes (zs : List Int) (n : Nat) : Ent (chain zs n) ⟨0, n, pre zs n⟩ := by
  intro v hv
  have key : ∀ k, k ≤ n → v 0 - v k ≤ pre zs k := by
    intro k
    induction k with
    | zero => intro _; simp [pre]
    | succ k ih =>
      intro hk
      have h1 := ih (by omega)
      have h2 := chain_hold.1 (hv (chainF zs k) (by unfold chain; exact List.mem_map.2 ⟨k, by simp; omega, rfl⟩))
      show v 0 - v (k + 1) ≤ pre zs k + clampC (zs.getD k 0)
      omega
  have := key n (Nat.le_refl _)
  unfold Hold
  simpa using this
theorem chain_no (zs : List Int) (n : Nat) : ¬ Ent (chain zs n) ⟨0, n, pre zs n - 1⟩ := by
  intro h
  have := h (fun i => -pre zs i) (chain_sol fun i _ => by show -pre zs i - -(pre zs i + clampC (zs.getD i 0)) ≤ _; omega)
  unfold Hold at this
  simp [pre] at this
  omega
theorem chain_back (zs : List Int) (n : Nat) (hn : 1 ≤ n) : ¬ Ent (chain zs n) ⟨n, 0, 1099511627776⟩ := by
  intro h
  have := h (fun i => -pre zs i + 2199023255552 * (i : Int)) (chain_sol fun i _ => by show (-pre zs i + 2199023255552 * (i : Int)) - (-(pre zs i + clampC (zs.getD i 0)) + 2199023255552 * ((i + 1 : Nat) : Int)) ≤ _; omega)
  have hb := pre_bd zs n
  unfold Hold at this
  simp [pre] at this
  omega

theorem chain_fit (zs : List Int) (n : Nat) (hn : n ≤ 95) {g : F} (hg : FitF (n + 1) g) (hc : g.c ≠ 8796093022208) : entB ((n : Int) + 1) g (chain zs n) = 0 := by
  unfold entB
  rw [if_neg (fun h => hc h.2)]
  have := refuse_fit (n := n + 1) (fs := chain zs n ++ [g]) ⟨by omega, by omega, by simp [chain_len]; omega, fun f hf => by
    rcases List.mem_append.1 hf with h | h
    · obtain ⟨i, hi, rfl⟩ := chain_mem h
      have hb := clampC_bd (zs.getD i 0)
      exact ⟨by show (0 : Int) ≤ (i : Int); omega, by show (i : Int) < ((n + 1 : Nat) : Int); omega, by show (0 : Int) ≤ (i : Int) + 1; omega, by show (i : Int) + 1 < ((n + 1 : Nat) : Int); omega, by show _ ≤ clampC _; omega, by show clampC _ ≤ _; omega⟩
    · rw [List.mem_singleton.1 h]; exact hg⟩
  simpa using this

theorem chain_cells (zs : List Int) (k : Nat) : factCells (chain zs k) ++ fCells (chainF zs k) = factCells (chain zs (k + 1)) := by
  rw [chain_succ, factCells_append]
  simp [factCells]

def EntIs (b : Bool) (w : World) (e : Ending) (w' : World) : Prop := e = .returned (.tuple #[.bool b, .int .i64 0]) ∧ Below w.heap.size w w'
theorem chain_ent (zs : List Int) (n : Nat) (N1 : Int) (hN1 : N1 = (n : Int) + 1) (k : Nat) (hk : k = n) (hn : n ≤ 95) (g : F) (b : Bool) (hg : FitF (n + 1) g) (hc : g.c ≠ 8796093022208) (hb : b = true ↔ Ent (chain zs n) g) (A : Option Addr) (cap : Nat) (w : World) (base : Nat) (h : w.ownsRow base 37 3 (.slice A k cap) k (factCells (chain zs n))) :
    Calls Try.prog 16 #[.int .i64 N1, .agg #[.int .i64 g.x, .int .i64 g.y, .int .i64 g.c], .slice A k cap] w (EntIs b w) := by
  obtain rfl := hk
  subst hN1
  have e := chain_len zs k
  obtain ⟨A', cap', hv, hc1, hc2⟩ := own_slice h
  cases hv
  rw [← e] at h
  have h0 := chain_fit zs k hn hg hc
  have hcall := entails_any ((k : Int) + 1) g A cap (chain zs k) w (FactsAt.of_own (by rw [e] at h ⊢; exact h)) (by rw [e]; exact hc1) hc2
  rw [e] at hcall
  refine hcall.mono ?_
  rintro e w' ⟨b', rfl, _, h2, hbl⟩
  have hb' : b' = b := by
    have := h2 h0
    cases b <;> cases b' <;> simp_all
  rw [hb', h0]
  exact ⟨rfl, hbl⟩

set_option maxHeartbeats 4000000 in
theorem diffChain_walk (A : Option Addr) (cap : Nat) (zs : List Int) (w : World) (hzs : NumsAt w w.heap.size A zs) (_hcap : zs.length ≤ cap) (hcm : cap ≤ maxLen) (_hby : cap * 8 ≤ 140737488351232) :
    Calls Try.prog 7 #[.slice A zs.length cap] w fun e w' => e = .returned (.bool true) ∧ Below w.heap.size w w' := by
  unfold maxLen at hcm
  have HZ := Lib.hid hzs
  clear hzs
  obtain ⟨N, hN, hN1, hN2⟩ : ∃ N : Nat, (if (95 : Int) < (zs.length : Int) then (95 : Int) else (zs.length : Int)) = (N : Int) ∧ N ≤ 95 ∧ N ≤ zs.length := by
    by_cases h : 95 < zs.length
    · exact ⟨95, by rw [if_pos (by omega)]; rfl, by omega, by omega⟩
    · exact ⟨zs.length, by rw [if_neg (by omega)], by omega, by omega⟩
  go_enter Try.func7, Try.ntmps7
  go_wp2_with fail
  refine (wakes_any w).mono ?_
  rintro e w1 ⟨rfl, hb1⟩
  have HB1 := Lib.hid hb1
  have hw1 := hb1.size
  clear hb1
  go_wp2_with fail
  clear hN
  go_loopw [4, 5, 20] (fun su v i wr => ∃ k : Nat, k ≤ N ∧ i = .int .i64 k ∧ su = .int .i64 (pre zs k) ∧ wr.ownsRow w.heap.size 37 3 v k (factCells (chain zs k)) ∧ Below w.heap.size w wr) (fun _ _ i _ => N - (intOf i).toNat)
  case atStart => exact ⟨0, by omega, rfl, rfl, World.ownsRow_nil _ _ _ _, HB1.out⟩
  case round =>
    obtain ⟨k, hk, rfl, rfl, hown, hb⟩ := hrel
    have hpb := pre_bd zs k
    by_cases hlt : k < N
    · obtain ⟨b, off, hA, hbl, hcl⟩ := HZ.out (by omega)
      have c0 := (hb.cell (p := ⟨b, off + k, none⟩) hbl).trans (hcl k (by omega))
      subst hA
      have HPS : Hid (pre zs (k + 1) = pre zs k + clampC (zs.getD k 0)) := Lib.hid rfl
      have HCC := Lib.hid (chain_cells zs k)
      have hcb := clampC_bd (zs.getD k 0)
      have HCF : Hid (chainF zs k = ⟨k, (k : Int) + 1, clampC (zs.getD k 0)⟩) := Lib.hid rfl
      generalize zs.getD k 0 = z at *
      obtain ⟨m1, hm1⟩ : ∃ m1, (if (1073741824 : Int) < z then (1073741824 : Int) else z) = m1 := ⟨_, rfl⟩
      have hm2 : (if (-1073741824 : Int) < m1 then m1 else (-1073741824 : Int)) = clampC z := by
        rw [← hm1]
        unfold clampC
        split <;> split <;> omega
      generalize clampC z = cc at *
      have hz := hb.size
      have HO := Lib.hid hown
      have HB := Lib.hid hb
      have hk2 : (k : Int) < (zs.length : Int) := by omega
      have hlt2 : (k : Int) < (N : Int) := by omega
      clear hcl hb hown
      obtain ⟨i0, hi, hz0, hz1, hz2⟩ := info_parts Try.infoLeq
      go_wp2_with (at_builtin; refine wpList_append_own _ rfl (.tmp 29) (.tmp 35) 22 rfl w.heap.size 37 i0 _ 3 24 Try.underlying22 hi hz0 hz1 hz2 rfl (by decide) _ _ _ rfl (HO.out.alloc _) ⟨wr.heap.size, 0, none⟩ 1 1 (fCells ⟨k, (k : Int) + 1, cc⟩) rfl rfl ?c1 ?c2 ?c3 ?c4 ?c5 ?_)
      case c1 => exact lit_cells wr ⟨k, (k : Int) + 1, cc⟩ _
      case c2 => exact one_cells _
      case c3 => unfold maxLen; omega
      case c4 => omega
      case c5 => simp; omega
      intro v' w2 hown2 hgrow2 _
      have HO2 := Lib.hid hown2
      have HB2 := Lib.hid ((HB.out.alloc hz _).grown hgrow2 (by simp; omega) (fun j hj => (HO.out.lt j hj).1))
      clear hown2 hgrow2 hm1 hm2
      go_wp2
      go_roundw
      case rel => exact ⟨k + 1, by omega, by go_num, by rw [HPS.out], by rw [← HCC.out, HCF.out]; exact HO2.out, HB2.out⟩
      case measure => simp [intOf]; omega
    · have hke : k = N := by omega
      subst hke
      by_cases h0 : k = 0
      · subst h0
        go_wp2
        go_ret
        exact ⟨rfl, hb⟩
      · have t0 : ((k : Int) == 0) = false := by rw [beq_eq_false_iff_ne]; omega
        obtain ⟨A2, cap2, rfl, _, _⟩ := own_slice hown
        have HO := Lib.hid hown
        have HB := Lib.hid hb
        have HYES := Lib.hid (chain_yes zs k)
        have HNO := Lib.hid (chain_no zs k)
        have HBK := Lib.hid (chain_back zs k (by omega))
        generalize pre zs k = S at *
        clear hown hb
        go_wp2_with fail
        refine (chain_ent zs k _ rfl _ rfl hN1 ⟨0, k, S⟩ true ⟨by show (0 : Int) ≤ 0; omega, by show (0 : Int) < ((k + 1 : Nat) : Int); omega, by show (0 : Int) ≤ (k : Int); omega, by show (k : Int) < ((k + 1 : Nat) : Int); omega, by show _ ≤ S; omega, by show S ≤ _; omega⟩ (by show S ≠ _; omega) ⟨fun _ => HYES.out, fun _ => rfl⟩ A2 cap2 _ _ HO.out).mono ?_
        rintro e w3 ⟨rfl, hb3⟩
        have HB3 := Lib.hid (HB.out.trans (hb3.mono HB.out.size))
        have HO3 := Lib.hid (own_below HO.out hb3)
        clear hb3
        go_wp2_with fail
        refine (chain_ent zs k _ rfl _ rfl hN1 ⟨0, k, S - 1⟩ false ⟨by show (0 : Int) ≤ 0; omega, by show (0 : Int) < ((k + 1 : Nat) : Int); omega, by show (0 : Int) ≤ (k : Int); omega, by show (k : Int) < ((k + 1 : Nat) : Int); omega, by show _ ≤ S - 1; omega, by show S - 1 ≤ _; omega⟩ (by show S - 1 ≠ _; omega) ⟨(fun h => by cases h), fun h => absurd h HNO.out⟩ A2 cap2 _ _ HO3.out).mono ?_
        rintro e w4 ⟨rfl, hb4⟩
        have HB4 := Lib.hid (HB3.out.trans (hb4.mono HB3.out.size))
        have HO4 := Lib.hid (own_below HO3.out hb4)
        clear hb4
        go_wp2_with fail
        refine (chain_ent zs k _ rfl _ rfl hN1 ⟨k, 0, 1099511627776⟩ false ⟨by show (0 : Int) ≤ (k : Int); omega, by show (k : Int) < ((k + 1 : Nat) : Int); omega, by show (0 : Int) ≤ 0; omega, by show (0 : Int) < ((k + 1 : Nat) : Int); omega, by show (-8796093022208 : Int) ≤ 1099511627776; decide, by show (1099511627776 : Int) ≤ 8796093022208; decide⟩ (by show (1099511627776 : Int) ≠ 8796093022208; decide) ⟨(fun h => by cases h), fun h => absurd h HBK.out⟩ A2 cap2 _ _ HO4.out).mono ?_
        rintro e w5 ⟨rfl, hb5⟩
        have HB5 := Lib.hid (HB4.out.trans (hb5.mono HB4.out.size))
        clear hb5
        go_wp2
        go_ret
        exact ⟨rfl, HB5.out⟩

theorem diffChain_reads (os : Os) {H : Type} (enc : TypeId × Value → H) : ∃ places, DataW.whole enc Try.prog ((World.holding Try.prog os ⟨#[], #[], []⟩).forCall (fun _ _ => 0) ⟨#[], #[Value.slice none 0 0], []⟩).memory Try.f7.params.toList Rows.diffChainSpec.vars false #[Value.slice none 0 0].toList 8 = some ([.nil], [], places) :=
  ⟨[], by kernel_rfl⟩

set_option maxRecDepth 100000 in
theorem diffChain_lifted (os : Os) (started : os.Started) (H : Type) (enc : TypeId × Value → H) (F : Stop.Interp) :
    ReturnsInHanded {} Try.checked os 7 .any ((OpenSpec.ofChange Rows.diffChainSpec).preRow enc Try.prog Try.f7 Rows.diffChainRow.domain false Rows.diffChainRow.laid) (((OpenSpec.ofChange Rows.diffChainSpec).at F).post enc Try.prog Try.f7 false true false false) := by
  obtain ⟨places, hx⟩ := diffChain_reads os enc
  refine returnsInHanded_of_row (C := Try.checked) (s := OpenSpec.ofChange Rows.diffChainSpec) own started (by kernel_rfl) Try.func7
    (witness_row_at (enc := enc) (C := Try.checked) false (World.holding Try.prog os ⟨#[], #[], []⟩) #[Value.slice none 0 0] rfl (by kernel_rfl) (by kernel_rfl) (by kernel_rfl)
      (OpenSpec.preRow_of_cond 8 hx (by kernel_rfl) (fun k hk => by cases hk) (by kernel_rfl) (laidMet_of_run' 8 (by kernel_rfl) (by kernel_rfl)))) ?_
  intro W base args ds gs before hval hW _ _ hreach _ _ _
  exact nums_contract Try.params7 (by kernel_rfl) rfl (fun _ => rfl) diffChain_walk W base args ds gs before hval hW hreach

theorem diffChain_said : Rows.DiffChainSaid :=
  OpenClaim.holds_of_cond 7 Try.f7 rfl rfl rfl rfl rfl rfl rfl ⟨rfl, rfl, rfl, rfl, rfl⟩ rfl rfl rfl rfl rfl (by kernel_rfl) Try.func7 (by kernel_rfl)
    (of_decide_eq_true (by kernel_rfl)) (by unfold Func.isWrapper; first | (rw [if_pos (by decide +kernel)]; kernel_rfl) | (rw [if_neg (by decide +kernel)]; exact ⟨rfl, rfl⟩))
    (fun os started H enc _ F => by rw [OpenClaim.pre_eq_preRow]; exact diffChain_lifted os started H enc F)

end Go.Proofs.Ytpoohappocehdaa
