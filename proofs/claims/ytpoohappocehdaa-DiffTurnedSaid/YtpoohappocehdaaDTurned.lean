/- Proved here: for every number and every list of facts that lychgatelaw04.DiffTurned is called with, in every memory, the call returns true and its arguments read as before. No conditions. -/
import Derived.Test.YtpoohappocehdaaDClose
namespace Go.Proofs.Ytpoohappocehdaa
open Go.ChangeShapes Go.WideShapes Go.ChangeAt Go.RowKit

/- The facts from r on, backwards, each twice. -/
def dblFrom (fs : List F) (r : Nat) : List F := ((fs.drop r).reverse).flatMap fun f => [f, f]
theorem dbl_end (fs : List F) : dblFrom fs fs.length = [] := by simp [dblFrom]
theorem dbl_step (fs : List F) (r : Nat) (f : F) (h : fs[r]? = some f) : dblFrom fs r = dblFrom fs (r + 1) ++ [f, f] := by
  unfold dblFrom
  have hr : r < fs.length := (List.getElem?_eq_some_iff.1 h).1
  have e : fs[r] = f := (List.getElem?_eq_some_iff.1 h).2
  rw [List.drop_eq_getElem_cons hr, e]
  simp
theorem dbl_len (fs : List F) (r : Nat) : (dblFrom fs r).length = 2 * (fs.length - r) := by
  unfold dblFrom
  generalize hL : (fs.drop r).reverse = L
  have hl : L.length = fs.length - r := by rw [← hL]; simp
  rw [← hl]
  clear hl hL
  induction L with
  | nil => rfl
  | cons a l ih => rw [List.flatMap_cons, List.length_append, ih]; simp; omega
theorem dbl_mem (fs : List F) (f : F) : f ∈ dblFrom fs 0 ↔ f ∈ fs := by simp [dblFrom]

theorem refuse_dbl {n : Int} {fs : List F} (h : fs.length ≤ 384) : refuseB n (dblFrom fs 0) = refuseB n fs := by
  have hl := dbl_len fs 0
  have e : (dblFrom fs 0).any (oddB n) = fs.any (oddB n) := by
    rw [Bool.eq_iff_iff, List.any_eq_true, List.any_eq_true]
    constructor
    · rintro ⟨x, hx, ho⟩; exact ⟨x, (dbl_mem fs x).1 hx, ho⟩
    · rintro ⟨x, hx, ho⟩; exact ⟨x, (dbl_mem fs x).2 hx, ho⟩
  unfold refuseB
  rw [e, if_neg (show ¬ 768 < (dblFrom fs 0).length by omega), if_neg (show ¬ 768 < fs.length by omega)]

theorem own_drew {w : World} {base : Nat} {e : TypeId} {size n : Nat} {v : Value} {xs : List Value} (h : w.ownsRow base e size v n xs) : w.drew.ownsRow base e size v n xs := h
theorem drew_cell (w : World) (a : Addr) : w.drew.cell? a = w.cell? a := rfl
theorem lit2_cells (w : World) (f g : F) (e : TypeId) : ∀ j u, (fCells f ++ fCells g)[j]? = some u → (w.alloc (.cells #[.int .i64 f.x, .int .i64 f.y, .int .i64 f.c, .int .i64 g.x, .int .i64 g.y, .int .i64 g.c] e)).drew.cell? ((⟨w.heap.size, 0, none⟩ : Addr).add j) = some u := by
  intro j u hj
  rw [drew_cell, Addr.add_mid, Nat.zero_add, cell_of_row _ _ _ _ _ _ (heap_alloc_new w _)]
  simpa [fCells] using hj
theorem two_one (f g : F) : ∀ u ∈ fCells f ++ fCells g, u.oneCell' = true := by
  intro u hu
  rcases List.mem_append.1 hu with h | h
  · exact one_cells f u h
  · exact one_cells g u h
theorem grown_drew {a w : World} {row : Option Nat} (h : a.drew.grownBy w row) : a.grownBy w row := ⟨h.os, h.tape, h.output, h.size, h.block⟩
theorem dbl_cells (fs : List F) (r : Nat) (f : F) (h : fs[r]? = some f) : factCells (dblFrom fs (r + 1)) ++ (fCells f ++ fCells f) = factCells (dblFrom fs r) := by
  rw [dbl_step fs r f h, factCells_append]
  simp [factCells]

theorem nonil {n : Nat} {fs : List F} {l : List Int} (h : Plain n fs l) : ∃ v, Sol fs v := by
  obtain ⟨_, _, v, hv, _⟩ := h
  exact ⟨v, hv.sol⟩

theorem plain_same {n : Nat} {fs gs : List F} {l k : List Int} (h : Plain n fs l) (h' : Plain n gs k) (hs : ∀ f, f ∈ fs ↔ f ∈ gs) (hn : 1 ≤ n) (i : Nat) (hi : i < n) : l.getD i 0 = k.getD i 0 := by
  obtain ⟨_, _, v, hv, e⟩ := h
  obtain ⟨_, _, u, hu, e'⟩ := h'
  have h1 := hv.unique hu hs
  rw [e i hi, e' i hi, h1 i hi, h1 0 (by omega)]

set_option maxHeartbeats 4000000 in
theorem diffTurned_walk (n : Int) (A : Option Addr) (cap : Nat) (fs : List F) (w : World) (hfs : FactsAt w w.heap.size A fs) (hcap : fs.length ≤ cap) (hcm : cap ≤ maxLen) (_hby : cap * 24 ≤ 140737488351232) :
    Calls Try.prog 9 #[.int .i64 n, .slice A fs.length cap] w fun e w' => e = .returned (.bool true) ∧ Below w.heap.size w w' := by
  have HF := Lib.hid hfs
  clear hfs
  by_cases hbig : 384 < fs.length
  · have t1 : (384 : Int) < (fs.length : Int) := by omega
    go_enter Try.func9, Try.ntmps9
    go_wp2_with fail
    refine (wakes_any w).mono ?_
    rintro e w1 ⟨rfl, hb1⟩
    have HB1 := Lib.hid hb1
    clear hb1
    go_wp2_with fail
    refine (wakes_any w1).mono ?_
    rintro e w2 ⟨rfl, hb2⟩
    have HB2 := Lib.hid (HB1.out.trans (hb2.mono HB1.out.size))
    clear hb2
    go_wp2
    go_ret
    exact ⟨rfl, HB2.out⟩
  have t1 : decide ((384 : Int) < (fs.length : Int)) = false := by simp; omega
  go_enter Try.func9, Try.ntmps9
  go_wp2_with fail
  refine (wakes_any w).mono ?_
  rintro e w1 ⟨rfl, hb1⟩
  have HB1 := Lib.hid hb1
  have hw1 := hb1.size
  clear hb1
  go_wp2_with fail
  go_loopg [5, 6] fs.length (fun g v i wr => ∃ r : Nat, r ≤ fs.length ∧ r ≤ g ∧ i = .int .i64 ((r : Int) - 1) ∧ wr.ownsRow w.heap.size 37 3 v (dblFrom fs r).length (factCells (dblFrom fs r)) ∧ Below w.heap.size w wr)
  case atStart => exact ⟨fs.length, Nat.le_refl _, Nat.le_refl _, rfl, by rw [dbl_end]; exact World.ownsRow_nil _ _ _ _, HB1.out⟩
  case round =>
    obtain ⟨r, hr, hrg, hi, hown, hb⟩ := hrel
    rcases r with _ | r
    · obtain rfl : u6 = .int .i64 (-1) := hi
      obtain ⟨A2, cap2, rfl, hcap2, hcm2⟩ := own_slice hown
      have HO := Lib.hid hown
      have HB := Lib.hid hb
      have HT := Lib.hid (dbl_mem fs)
      have hll := dbl_len fs 0
      have hll2 : (dblFrom fs 0).length ≤ 768 := by omega
      have HRD := Lib.hid (refuse_dbl (n := n) (fs := fs) (by omega))
      generalize dblFrom fs 0 = ts at *
      clear hown hb hll
      by_cases hrf : refuseB n fs = 0
      · obtain ⟨m, rfl, fit⟩ := refuse_ok hrf
        obtain ⟨m2, he, fit2⟩ := refuse_ok (HRD.out.trans hrf)
        obtain rfl : m2 = m := by omega
        clear he
        have hn1 := fit.n1
        have hn2 := fit.n2
        have HFIT := Lib.hid fit
        have HFIT2 := Lib.hid fit2
        clear hrf fit fit2
        go_wp2_with fail
        refine (solve_ok m2 A cap fs _ ((HF.out.below HB.out (Nat.le_refl _)).more HB.out.size) HFIT.out).mono ?_
        rintro e w3 ⟨hb3, ⟨l, g, hp, rfl, hg, hblk⟩ | ⟨v, c, hc, hl, rfl, hown3⟩⟩
        · have HB3 := Lib.hid (HB.out.trans (hb3.mono HB.out.size))
          have HP := Lib.hid hp
          have HK := Lib.hid hblk
          have HO3 := Lib.hid (own_below HO.out hb3)
          clear hb3 hp hg hblk
          go_wp2_with fail
          refine (solve_ok m2 A2 cap2 ts _ (FactsAt.of_own HO3.out) HFIT2.out).mono ?_
          rintro e w4 ⟨hb4, ⟨l2, g2, hp2, rfl, hg2, hblk2⟩ | ⟨v, c, hc, hl, rfl, hown4⟩⟩
          · have HB4 := Lib.hid (HB3.out.trans (hb4.mono HB3.out.size))
            have HS := Lib.hid (plain_same HP.out hp2 (fun f => (HT.out f).symm) hn1)
            have HK1 := Lib.hid (HK.out.below hb4 HK.out.lt)
            have HK2 := Lib.hid hblk2
            have hl1 : l.length = m2 := HP.out.1
            have hl2 : l2.length = m2 := hp2.1
            have t2 : ((m2 : Int) != (m2 : Int)) = false := by simp
            have HL1 := Lib.hid hl1
            have HL2 := Lib.hid hl2
            clear hb4 hp2 hg2 hblk2 hl1 hl2
            go_wp2_with fail
            go_loopw [75] (fun i wq => ∃ k : Nat, k ≤ m2 ∧ i = .int .i64 k ∧ Below w4.heap.size w4 wq) (fun i _ => m2 - (intOf i).toNat)
            case atStart => exact ⟨0, by omega, rfl, Below.refl _ _⟩
            case round =>
              obtain ⟨k, hk, rfl, hbq⟩ := hrel
              by_cases hlt : k < m2
              · have c1 := (hbq.cell (p := ⟨g, k, none⟩) HK1.out.lt).trans ((HK1.out.cell k).trans (intsGet l k (by rw [HL1.out]; exact hlt)))
                have c2 := (hbq.cell (p := ⟨g2, k, none⟩) HK2.out.lt).trans ((HK2.out.cell k).trans (intsGet l2 k (by rw [HL2.out]; exact hlt)))
                rw [HS.out k hlt] at c1
                generalize l2.getD k 0 = a at *
                have t3 : (a != a) = false := by simp
                have hk2 : (k : Int) < (m2 : Int) := by omega
                have HBQ := Lib.hid hbq
                clear hbq
                go_wp2_with fail
                go_quiet (fail)
                go_wp2
                go_roundw
                case rel => exact ⟨k + 1, by omega, by go_num, below_drewN HBQ.out _⟩
                case measure => simp [intOf]; omega
              · have HBQ := Lib.hid (HB4.out.trans (hbq.mono HB4.out.size))
                clear hbq
                go_wp2
                go_ret
                exact ⟨rfl, HBQ.out⟩
          · obtain ⟨u, hu⟩ := nonil HP.out
            exact absurd (fun f hf => hu f ((HT.out f).1 hf)) (hc.none u)
        · have HB3 := Lib.hid (HB.out.trans (hb3.mono HB.out.size))
          have HC3 := Lib.hid hc
          have hc0 := hc.ne
          obtain ⟨g3, c3, rfl, _, _⟩ := hown3.form hc.ne
          have HO3 := Lib.hid (own_below HO.out hb3)
          clear hb3 hc hown3
          go_wp2_with fail
          refine (solve_ok m2 A2 cap2 ts _ (FactsAt.of_own HO3.out) HFIT2.out).mono ?_
          rintro e w4 ⟨hb4, ⟨l2, g2, hp2, rfl, hg2, hblk2⟩ | ⟨v, d, hd, hl2, rfl, hown4⟩⟩
          · obtain ⟨u, hu⟩ := nonil hp2
            exact absurd (fun f hf => hu f ((HT.out f).2 hf)) (HC3.out.none u)
          · obtain ⟨g4, c4, rfl, _, _⟩ := hown4.form hd.ne
            have HB4 := Lib.hid (HB3.out.trans (hb4.mono HB3.out.size))
            have HO4 := Lib.hid (own_below HO3.out hb4)
            have HO5 := Lib.hid hown4
            have hd0 := hd.ne
            have HD := Lib.hid hd
            have t4 : ((d.length : Int) == 0) = false := by rw [beq_eq_false_iff_ne]; omega
            clear hb4 hd hown4
            go_wp2_with fail
            refine wp_loop_rounds 1 ?_
            rw [rounds_succ]
            go_wp2_with fail
            refine (lawCircle_any A2 _ cap2 c4 m2 ts d w4 (FactsAt.of_own HO4.out) (NumsAt.of_own HO5.out) HD.out (by omega) HFIT2.out.fit hll2).mono ?_
            rintro e w5 ⟨rfl, hb5⟩
            have HB5 := Lib.hid (HB4.out.trans (hb5.mono HB4.out.size))
            clear hb5
            go_wp2
            go_ret
            exact ⟨rfl, HB5.out⟩
      · have t2 : (refuseB n fs != refuseB n fs) = false := by simp
        have HR := Lib.hid hrf
        clear hrf
        go_wp2_with fail
        refine (solve_no n A cap fs _ ((HF.out.below HB.out (Nat.le_refl _)).more HB.out.size) (Nat.le_trans hcap hcm) HR.out).mono ?_
        rintro e w3 ⟨rfl, hb3⟩
        have HB3 := Lib.hid (HB.out.trans (hb3.mono HB.out.size))
        have HO3 := Lib.hid (own_below HO.out hb3)
        clear hb3
        go_wp2_with fail
        refine (solve_no n A2 cap2 ts _ (FactsAt.of_own HO3.out) (by unfold maxLen; omega) (by rw [HRD.out]; exact HR.out)).mono ?_
        rw [HRD.out]
        rintro e w4 ⟨rfl, hb4⟩
        have HB4 := Lib.hid (HB3.out.trans (hb4.mono HB3.out.size))
        clear hb4
        generalize refuseB n fs = cd at *
        go_wp2_with fail
        go_rounds 1
        go_ret
        exact ⟨rfl, HB4.out⟩
    · obtain rfl : u6 = .int .i64 (r : Int) := by rw [hi]; congr 1; omega
      clear hi
      have hlt : r < fs.length := by omega
      obtain ⟨b, off, hA, hbl, hcl⟩ := HF.out (by omega)
      obtain ⟨f, hf⟩ : ∃ f, fs[r]? = some f := ⟨_, List.getElem?_eq_getElem hlt⟩
      obtain ⟨f0, f1, f2⟩ := hcl r f hf
      replace f0 := (hb.cell (p := ⟨b, off + r * 3, none⟩) hbl).trans f0
      replace f1 := (hb.cell (p := ⟨b, off + r * 3 + 1, none⟩) hbl).trans f1
      replace f2 := (hb.cell (p := ⟨b, off + r * 3 + 2, none⟩) hbl).trans f2
      subst hA
      have hz := hb.size
      have hll := dbl_len fs (r + 1)
      have HLE := Lib.hid (show (dblFrom fs r).length = (dblFrom fs (r + 1)).length + 2 by rw [dbl_len, dbl_len]; omega)
      have hll2 : (dblFrom fs (r + 1)).length ≤ 768 := by omega
      have HC := Lib.hid (dbl_cells fs r f hf)
      have HO := Lib.hid hown
      have HB := Lib.hid hb
      have hr2 : (r : Int) < (fs.length : Int) := by omega
      clear hcl hf hb hown hll
      obtain ⟨i0, hi, hz0, hz1, hz2⟩ := info_parts Try.infoLeq
      go_wp2_with fail
      go_region_law (refine step_append_lies _ rfl (.tmp 29) (.tmp 38) 22 rfl w.heap.size 37 i0 _ 3 24 Try.underlying22 hi hz0 hz1 hz2 rfl (by decide) _ _ _ rfl (own_drew (HO.out.alloc _)) ⟨wr.heap.size, 0, none⟩ 2 2 (fCells f ++ fCells f) rfl rfl (lit2_cells wr f f _) (two_one f f) (by decide) (by unfold maxLen; omega) (by omega) (by simp; omega) _ rfl ?_; intro g cap' w3 hown3 hgrow3 _ _; have HO3 := Lib.hid hown3; have HB3 := Lib.hid ((HB.out.alloc hz _).grown (grown_drew hgrow3) (by simp; omega) (fun j hj => (HO.out.lt j hj).1)); clear hown3 hgrow3)
      all_goals
        go_wp2
        go_roundg (gk - 1)
        case measure => omega
        case rel => exact ⟨r, by omega, by omega, by go_num, by rw [HLE.out, ← HC.out]; exact HO3.out, HB3.out⟩

theorem diffTurned_reads (os : Os) {H : Type} (enc : TypeId × Value → H) : ∃ places, DataW.whole enc Try.prog ((World.holding Try.prog os ⟨#[], #[], []⟩).forCall (fun _ _ => 0) ⟨#[], #[Value.int .i64 0, Value.slice none 0 0], []⟩).memory Try.f9.params.toList Rows.diffTurnedSpec.vars false #[Value.int .i64 0, Value.slice none 0 0].toList 8 = some ([.lit (.int .i64 0), .nil], [], places) :=
  ⟨[], by kernel_rfl⟩

set_option maxRecDepth 100000 in
theorem diffTurned_lifted (os : Os) (started : os.Started) (H : Type) (enc : TypeId × Value → H) (F : Stop.Interp) :
    ReturnsInHanded {} Try.checked os 9 .any ((OpenSpec.ofChange Rows.diffTurnedSpec).preRow enc Try.prog Try.f9 Rows.diffTurnedRow.domain false Rows.diffTurnedRow.laid) (((OpenSpec.ofChange Rows.diffTurnedSpec).at F).post enc Try.prog Try.f9 false true false false) := by
  obtain ⟨places, hx⟩ := diffTurned_reads os enc
  refine returnsInHanded_of_row (C := Try.checked) (s := OpenSpec.ofChange Rows.diffTurnedSpec) own started (by kernel_rfl) Try.func9
    (witness_row_at (enc := enc) (C := Try.checked) false (World.holding Try.prog os ⟨#[], #[], []⟩) #[Value.int .i64 0, Value.slice none 0 0] rfl (by kernel_rfl) (by kernel_rfl) (by kernel_rfl)
      (OpenSpec.preRow_of_cond 8 hx (by kernel_rfl) (fun k hk => by cases hk) (by kernel_rfl) (laidMet_of_run' 8 (by kernel_rfl) (by kernel_rfl)))) ?_
  intro W base args ds gs before hval hW _ _ hreach _ _ _
  exact intFacts_contract Try.params9 (by kernel_rfl) rfl (fun _ _ => rfl) diffTurned_walk W base args ds gs before hval hW hreach

theorem diffTurned_said : Rows.DiffTurnedSaid :=
  OpenClaim.holds_of_cond 9 Try.f9 rfl rfl rfl rfl rfl rfl rfl ⟨rfl, rfl, rfl, rfl, rfl⟩ rfl rfl rfl rfl rfl (by kernel_rfl) Try.func9 (by kernel_rfl)
    (of_decide_eq_true (by kernel_rfl)) (by unfold Func.isWrapper; first | (rw [if_pos (by decide +kernel)]; kernel_rfl) | (rw [if_neg (by decide +kernel)]; exact ⟨rfl, rfl⟩))
    (fun os started H enc _ F => by rw [OpenClaim.pre_eq_preRow]; exact diffTurned_lifted os started H enc F)

end Go.Proofs.Ytpoohappocehdaa
