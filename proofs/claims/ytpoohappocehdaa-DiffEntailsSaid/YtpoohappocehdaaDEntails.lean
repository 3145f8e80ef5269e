/- Proved here: for every number, fact and list of facts that lychgatelaw04.DiffEntails is called with, in every memory, the call returns true and its arguments read as before. No conditions. -/
import Derived.Test.YtpoohappocehdaaDRefP
import Derived.Deep.RegionHeld3
namespace Go.Proofs.Ytpoohappocehdaa
open Go.ChangeShapes Go.WideShapes Go.ChangeAt Go.RowKit

theorem open_leq {H : Type} {enc : TypeId × Value → H} {W : World} {base : Nat} {v : Value} {d : DataW H} {p : List MemPlace} (hval : Value.okWide Try.prog W .any base 37 v)
    (h : DataW.Trod enc Try.prog W 0 (fun _ => true) true 37 v d p) : ∃ g : F, v = .agg #[.int .i64 g.x, .int .i64 g.y, .int .i64 g.c] := by
  obtain ⟨cs, rfl, _⟩ := okWide_struct Try.underlying37 hval
  obtain ⟨fuel, hf⟩ := h
  obtain ⟨g, hg⟩ := fact_of_trod hf
  obtain ⟨l⟩ := cs
  simp [Value.cells] at hg
  subst hg
  exact ⟨g, rfl⟩

theorem ent_contract {H : Type} {enc : TypeId × Value → H} {f : FuncId} {fn : Func} {sp : ChangeSpec} {ts : List TypeId} (hp : fn.params = #[3, 37, 22]) (hr : fn.resultTypes = #[4]) (hvars : sp.vars = [])
    (hfn : ∀ d1 d2 d3 : DataW H, sp.fn H [d1, d2, d3] = { results := [.lit (.bool true)], args := [d1, d2, d3] })
    (walk : ∀ (n : Int) (g : F) (A : Option Addr) (cap : Nat) (fs : List F) (w : World), FactsAt w w.heap.size A fs → fs.length ≤ cap → cap ≤ maxLen → cap * 24 ≤ 140737488351232 →
      Calls Try.prog f #[.int .i64 n, .agg #[.int .i64 g.x, .int .i64 g.y, .int .i64 g.c], .slice A fs.length cap] w fun e w' => e = .returned (.bool true) ∧ Below w.heap.size w w')
    (W : World) (base : Nat) (args : Array Value) (ds gs : List (DataW H)) (before : List MemPlace)
    (hval : ∀ (j : Nat) t v, fn.params[j]? = some t → args[j]? = some v → Value.okWide Try.prog W .any base t v)
    (hW : DataW.Whole enc Try.prog fn.params.toList sp.vars false W args.toList ds gs before) (hreach : (DataW.weightsEach Try.prog (fn.params.toList ++ ts) (ds ++ gs)).all (· ≤ reachBytes) = true) :
    Calls Try.prog f args W fun e W' => ∃ v, e = .returned v ∧ sp.post enc Try.prog fn false true false false W args v W' := by
  have hW' := hW
  obtain ⟨p, q, hA0, hV, rfl, hfz, hnd⟩ := hW
  rw [hvars] at hV
  have hA : DataW.TrodAll enc Try.prog W 0 (fun _ => true) true fn.params.toList args.toList ds p := hA0
  rw [hp] at hA hval hreach
  obtain ⟨v0, vs0, d0, ds0, p0, q0, hargs, rfl, rfl, h0, r0⟩ := trodAll_cons hA
  obtain ⟨v1, vs1, d1, ds1, p1, q1, hargs1, rfl, rfl, h1, r1⟩ := trodAll_cons r0
  obtain ⟨v2, vs2, d2, ds2, p2, q2, hargs2, rfl, rfl, h2, r2⟩ := trodAll_cons r1
  obtain ⟨rfl, rfl, rfl⟩ := trodAll_nil r2
  obtain rfl : args = #[v0, v1, v2] := by cases args; simp_all
  obtain ⟨rfl, rfl⟩ := trodVars_none hV
  obtain ⟨n, rfl, _, _, _⟩ := open_int Try.underlying3 (hval 0 3 v0 rfl rfl) h0
  obtain ⟨g, rfl⟩ := open_leq (hval 1 37 v1 rfl rfl) h1
  obtain ⟨A, cap, fs, rfl, hfs, hcap, hcm, hd⟩ := open_facts (hval 2 22 v2 rfl rfl) h2
  have hby : cap * 24 ≤ 140737488351232 := by
    rcases hd with rfl | ⟨es, sp, rfl, rfl⟩
    · omega
    · have := sized_slice hreach (j := 2) (t := 22) (elems := es) (spare := sp) rfl rfl Try.underlying22
      rw [bytesLeq] at this
      exact this
  clear hA0
  refine (walk n g A cap fs W hfs hcap hcm hby).mono fun e W' ⟨he, hb⟩ => ⟨_, he, ?_⟩
  refine close_post hr hvars (hfn _ _ _) ?_ hW' hb
  rw [hp]
  intro t ht
  have hm : t = 3 ∨ t = 37 ∨ t = 22 := by simpa using ht
  rcases hm with rfl | rfl | rfl
  · exact ⟨by kernel_rfl, of_decide_eq_true (by kernel_rfl)⟩
  · exact ⟨by kernel_rfl, of_decide_eq_true (by kernel_rfl)⟩
  · exact ⟨by kernel_rfl, of_decide_eq_true (by kernel_rfl)⟩

theorem own_drew {w : World} {base : Nat} {e : TypeId} {size n : Nat} {v : Value} {xs : List Value} (h : w.ownsRow base e size v n xs) : w.drew.ownsRow base e size v n xs := h
theorem FactsAt.drew {w : World} {B : Nat} {A : Option Addr} {fs : List F} (h : FactsAt w B A fs) : FactsAt w.drew B A fs := h
theorem grown_drew {a w : World} {row : Option Nat} (h : a.drew.grownBy w row) : a.grownBy w row := ⟨h.os, h.tape, h.output, h.size, h.block⟩

theorem refs_len (A : Option Addr) (cap k : Nat) (fs : List F) (w : World) (hk : k = fs.length) {base : Nat} {t : TypeId} (hown : w.ownsRow base t 3 (.slice A k cap) k (factCells fs)) (hby : fs.length * 24 ≤ 140737488355328) :
    Calls Try.prog 12 #[.slice A k cap] w (RefsPost fs w) := by
  subst hk
  obtain ⟨A', cap', hv, h1, h2⟩ := own_slice hown
  cases hv
  exact refs_any A cap fs w (FactsAt.of_own hown) (Nat.le_trans h1 h2) hby

theorem lit_kept {w w2 : World} {A : Option Addr} {fs : List F} {o : Obj} (h : FactsAt (w.alloc o) (w.heap.size + 1) A fs) (hg : (w.alloc o).grownBy w2 (Value.slice none 0 0).ownBlock) : FactsAt w2 (w.heap.size + 1) A fs := by
  have hb : Below (w.heap.size + 1) (w.alloc o) w2 := (Below.refl _ _).grown hg (by simp) (fun k hk => by simp [Value.ownBlock] at hk)
  exact h.below hb (Nat.le_refl _)

theorem eq_bool {a b : Bool} {p : Prop} (ha : a = true ↔ p) (hb : b = true ↔ p) : b = a := by
  cases a
  · cases b
    · rfl
    · exact absurd (ha.2 (hb.1 rfl)) (by simp)
  · exact hb.2 (ha.1 rfl)

def FitCut (n : Int) (us : List F) (w W : World) (v : Value) (g : F) (gb : Nat) : Prop := v = .int .i64 (refuseB n us) ∧ Below w.heap.size w W ∧ Blk W gb (fCells g) 37

set_option maxHeartbeats 8000000 in
set_option maxRecDepth 100000 in
theorem diffEntails_walk (n : Int) (g : F) (A : Option Addr) (cap : Nat) (fs : List F) (w : World) (hfs : FactsAt w w.heap.size A fs) (hcap : fs.length ≤ cap) (hcm : cap ≤ maxLen) (hby : cap * 24 ≤ 140737488351232) :
    Calls Try.prog 4 #[.int .i64 n, .agg #[.int .i64 g.x, .int .i64 g.y, .int .i64 g.c], .slice A fs.length cap] w fun e w' => e = .returned (.bool true) ∧ Below w.heap.size w w' := by
  have HF := Lib.hid hfs
  clear hfs
  have hcm' := hcm
  unfold maxLen at hcm'
  obtain ⟨i0, I⟩ := Try.leqInfo
  go_enter Try.func4, Try.ntmps4
  go_wp2_with fail
  refine (entails_any n g A cap fs _ ((HF.out.below (B' := w.heap.size) ((Below.refl _ _).alloc (Nat.le_refl _) _) (Nat.le_refl _)).more (by simp)) hcap hcm).mono ?_
  rintro e w1 ⟨ra, rfl, hra0, hra1, hb1⟩
  have HGB := Lib.hid ((Blk.new w [.int .i64 g.x, .int .i64 g.y, .int .i64 g.c] 37).below hb1 (by simp))
  have HB1 := Lib.hid (((Below.refl w.heap.size w).alloc (Nat.le_refl _) _).trans (hb1.mono (by simp)))
  have HRA0 := Lib.hid hra0
  have HRA1 := Lib.hid hra1
  have hw1 : w.heap.size < w1.heap.size := HGB.out.lt
  have g0 := HGB.out.cell 0
  have g1 := HGB.out.cell 1
  have g2 := HGB.out.cell 2
  simp only [List.getElem?_cons_zero, List.getElem?_cons_succ] at g0 g1 g2
  clear hra0 hra1 hb1
  obtain ⟨us, HUS⟩ : ∃ us, Hid (fs ++ [g] = us) := ⟨_, Lib.hid rfl⟩
  have HUL : Hid (us.length = fs.length + 1) := Lib.hid (by rw [← HUS.out]; simp)
  go_upto_region 2 with fail
  go_cut [9] (fun v W => FitCut n us w W v g w.heap.size)
  case first =>
    go_region_held3 (fun w' => w'.cell? ⟨w.heap.size, 0, none⟩ = some (.int .i64 g.x) ∧ w'.cell? ⟨w.heap.size, 1, none⟩ = some (.int .i64 g.y) ∧ w'.cell? ⟨w.heap.size, 2, none⟩ = some (.int .i64 g.c))
      (first | go_keep | exact ⟨(HBX.out.cell (p := ⟨w.heap.size, 0, none⟩) hw1).trans g0, (HBX.out.cell (p := ⟨w.heap.size, 1, none⟩) hw1).trans g1, (HBX.out.cell (p := ⟨w.heap.size, 2, none⟩) hw1).trans g2⟩ | exact ⟨(HBY.out.cell (p := ⟨w.heap.size, 0, none⟩) hw1).trans g0, (HBY.out.cell (p := ⟨w.heap.size, 1, none⟩) hw1).trans g1, (HBY.out.cell (p := ⟨w.heap.size, 2, none⟩) hw1).trans g2⟩ | exact ⟨(HBZ.out.cell (p := ⟨w.heap.size, 0, none⟩) hw1).trans g0, (HBZ.out.cell (p := ⟨w.heap.size, 1, none⟩) hw1).trans g1, (HBZ.out.cell (p := ⟨w.heap.size, 2, none⟩) hw1).trans g2⟩ | exact ⟨(HBV.out.cell (p := ⟨w.heap.size, 0, none⟩) hw1).trans g0, (HBV.out.cell (p := ⟨w.heap.size, 1, none⟩) hw1).trans g1, (HBV.out.cell (p := ⟨w.heap.size, 2, none⟩) hw1).trans g2⟩)
      (first
      | (refine step_append_facts (fs := []) (v := .slice none 0 0) rfl (.const (.slice none 0 0)) (.tmp 18) rfl I rfl (World.ownsRow_nil _ w1.heap.size _ _) rfl (HF.out.below HB1.out (Nat.le_refl _)).drew rfl (by unfold maxLen; omega) (by omega) (Nat.le_refl _) ?_; intro A2 c2 w2 hown2 hgrow2; (try simp only [List.nil_append, Nat.zero_add] at hown2); (try simp only [Nat.zero_add]); have HOX := Lib.hid hown2; have HBX := Lib.hid ((Below.refl w1.heap.size w1).grown (grown_drew hgrow2) (Nat.le_refl _) (fun k hk => by simp [Value.ownBlock] at hk)); have hw2 : w1.heap.size ≤ w2.heap.size := HBX.out.size; clear hown2 hgrow2)
      | (refine step_append_facts (fs := []) (v := .slice none 0 0) rfl (.const (.slice none 0 0)) (.tmp 18) rfl I rfl (World.ownsRow_nil _ w1.heap.size _ _) rfl (HF.out.below (HB1.out.alloc (Nat.le_of_lt hw1) _) (Nat.le_refl _)).drew rfl (by unfold maxLen; omega) (by omega) (by simp) ?_; intro A2 c2 w2 hown2 hgrow2; (try simp only [List.nil_append, Nat.zero_add] at hown2); (try simp only [Nat.zero_add]); have HOX := Lib.hid hown2; have HBX := Lib.hid (((Below.refl w1.heap.size w1).alloc (Nat.le_refl _) _).grown (grown_drew hgrow2) (by simp) (fun k hk => by simp [Value.ownBlock] at hk)); have HLIT := Lib.hid (lit_kept (FactsAt.lit w1 g 37 _ rfl) (grown_drew hgrow2)); have hw2 : w1.heap.size ≤ w2.heap.size := HBX.out.size; clear hown2 hgrow2)
      | (refine step_append_facts rfl (.tmp 19) (.tmp 21) rfl I rfl (HOX.out.alloc _) rfl (FactsAt.lit w2 g _ _ rfl) rfl (by unfold maxLen; omega) (by omega) (by simp; omega) ?_; intro A3 c3 w3 hown3 hgrow3; have HOY := Lib.hid hown3; have HBY := Lib.hid ((HBX.out.alloc hw2 _).grown hgrow3 (by simp; omega) (fun k hk => (HOX.out.lt k hk).1)); clear hown3 hgrow3)
      | (refine step_append_facts rfl (.tmp 19) (.tmp 21) rfl I rfl HOX.out rfl HLIT.out rfl (by unfold maxLen; omega) (by omega) (by omega) ?_; intro A3 c3 w3 hown3 hgrow3; have HOY := Lib.hid hown3; have HBY := Lib.hid (HBX.out.grown hgrow3 hw2 (fun k hk => (HOX.out.lt k hk).1)); clear hown3 hgrow3)
      | (go_simp; go_at_call 12; refine (refs_len A3 c3 _ us _ HUL.out.symm (by rw [← HUS.out]; exact HOY.out) (by rw [HUL.out]; omega)).mono ?_; rintro e w4 ⟨A4, c4, rfl, hown4, hb4⟩; have HOZ := Lib.hid hown4; have HBZ := Lib.hid (HBY.out.trans (hb4.mono HBY.out.size)); clear hown4 hb4)
      | (go_simp; go_at_call 11; refine (fit_any n A4 c4 us _ (FactsAt.of_own HOZ.out) (by rw [HUL.out]; unfold maxLen; omega)).mono ?_; rintro e w5 ⟨rfl, hb5⟩; have HBV := Lib.hid (HBZ.out.trans (hb5.mono HBZ.out.size)); clear hb5))
    all_goals
      go_wp2_with fail
      go_meet
      exact ⟨rfl, HB1.out.trans (HBV.out.mono (Nat.le_of_lt hw1)), HGB.out.below HBV.out hw1⟩
  case rest =>
    obtain ⟨rfl, hb2, hgb2⟩ := hcut
    have HB2 := Lib.hid hb2
    have HG2 := Lib.hid hgb2
    clear hb2 hgb2 g0 g1 g2
    have g0 := HG2.out.cell 0
    have g1 := HG2.out.cell 1
    have g2 := HG2.out.cell 2
    simp only [fCells, List.getElem?_cons_zero, List.getElem?_cons_succ] at g0 g1 g2
    have HEB : Hid (entB n g fs = if refuseB n us = 0 ∧ g.c = 8796093022208 then 2 else refuseB n us) := Lib.hid (by rw [← HUS.out]; rfl)
    by_cases hr : refuseB n us = 0
    · by_cases hmax : g.c = 8796093022208
      · have hE := HEB.out
        rw [if_pos ⟨hr, hmax⟩] at hE
        obtain rfl : ra = false := by
          cases ra
          · rfl
          · have := HRA0.out rfl
            rw [hE] at this
            cases this
        have t1 : (g.c == 8796093022208) = true := by simpa using hmax
        rw [hE, hr]
        clear hr hmax hE
        go_wp2_with fail
        refine (wakes_any _).mono ?_
        rintro e w3 ⟨rfl, hb3⟩
        have HB3 := Lib.hid (HB2.out.trans (hb3.mono HB2.out.size))
        clear hb3
        go_wp2
        go_ret
        exact ⟨rfl, HB3.out⟩
      · have hE := HEB.out
        rw [if_neg (fun h => hmax h.2), hr] at hE
        have hfit := hr
        rw [← HUS.out] at hfit
        obtain ⟨m, rfl, fit⟩ := refuse_ok hfit
        have HFIT : Hid (FitS m fs) := Lib.hid ⟨fit.n1, fit.n2, by have := fit.len; simp at this; omega, fun f hf => fit.fit f (by simp [hf])⟩
        have HGF : Hid (FitF m g) := Lib.hid (fit.fit g (by simp))
        have hlen := HFIT.out.len
        have HRA := Lib.hid (HRA1.out hE)
        have t1 : (g.c == 8796093022208) = false := by simpa using hmax
        rw [hE, hr]
        clear hr hmax hE hfit fit
        go_wp2_with fail
        refine (wakes_any _).mono ?_
        rintro e w3 ⟨rfl, hb3⟩
        have HB3 := Lib.hid (HB2.out.trans (hb3.mono HB2.out.size))
        have HG3 := Lib.hid (HG2.out.below hb3 HG2.out.lt)
        clear hb3 g0 g1 g2
        have g0 := HG3.out.cell 0
        have g1 := HG3.out.cell 1
        have g2 := HG3.out.cell 2
        simp only [fCells, List.getElem?_cons_zero, List.getElem?_cons_succ] at g0 g1 g2
        by_cases h40 : 40 < m
        · have h40' : (40 : Int) < (m : Int) := by omega
          go_wp2
          go_ret
          exact ⟨rfl, HB3.out⟩
        · have h40' : ¬ (40 : Int) < (m : Int) := by omega
          have hw3 : w.heap.size < w3.heap.size := HG3.out.lt
          have tb : (ra == ra) = true := by simp
          go_wp2_with fail
          go_region_held3 (fun w' => w'.cell? ⟨w.heap.size, 0, none⟩ = some (.int .i64 g.x) ∧ w'.cell? ⟨w.heap.size, 1, none⟩ = some (.int .i64 g.y) ∧ w'.cell? ⟨w.heap.size, 2, none⟩ = some (.int .i64 g.c))
            (first | go_keep | exact ⟨(HBX.out.cell (p := ⟨w.heap.size, 0, none⟩) hw3).trans g0, (HBX.out.cell (p := ⟨w.heap.size, 1, none⟩) hw3).trans g1, (HBX.out.cell (p := ⟨w.heap.size, 2, none⟩) hw3).trans g2⟩ | exact ⟨(HBY.out.cell (p := ⟨w.heap.size, 0, none⟩) hw3).trans g0, (HBY.out.cell (p := ⟨w.heap.size, 1, none⟩) hw3).trans g1, (HBY.out.cell (p := ⟨w.heap.size, 2, none⟩) hw3).trans g2⟩)
            (first
            | (go_simp; go_at_call 12; refine (refs_any A cap fs _ ((HF.out.below HB3.out (Nat.le_refl _)).more HB3.out.size).drew (Nat.le_trans hcap hcm) (by omega)).mono ?_; rintro e w4 ⟨A4, c4, rfl, hown4, hb4⟩; have HOZ := Lib.hid hown4; have HBX := Lib.hid ((Below.refl w3.heap.size w3).drew.trans hb4); clear hown4 hb4)
            | (go_simp; go_at_call 17; refine (refEnt_any m g A4 c4 fs _ (FactsAt.of_own HOZ.out) HFIT.out HGF.out (by omega)).mono ?_; rintro e w5 ⟨rb, rfl, hrb, hb5⟩; obtain rfl : rb = ra := eq_bool HRA.out hrb; have HBY := Lib.hid (HBX.out.trans (hb5.mono HBX.out.size)); clear hrb hb5))
          all_goals
            go_wp2_with fail
            go_ret
            exact ⟨by simp, HB3.out.trans (HBY.out.mono (Nat.le_of_lt hw3))⟩
    · have hE := HEB.out
      rw [if_neg (fun h => hr h.1)] at hE
      obtain rfl : ra = false := by
        cases ra
        · rfl
        · have := HRA0.out rfl
          rw [hE] at this
          exact absurd this hr
      rw [hE]
      have t1 : (refuseB n us == 0) = false := by simpa using hr
      have t2 : (refuseB n us != 0) = true := by simpa using hr
      have t3 : (refuseB n us != refuseB n us) = false := by simp
      generalize refuseB n us = cd at *
      clear hr hE HEB HRA0 HRA1
      go_wp2_with fail
      refine (wakes_any _).mono ?_
      rintro e w3 ⟨rfl, hb3⟩
      have HB3 := Lib.hid (HB2.out.trans (hb3.mono HB2.out.size))
      clear hb3
      go_wp2
      go_ret
      exact ⟨rfl, HB3.out⟩

theorem diffEntails_reads (os : Os) {H : Type} (enc : TypeId × Value → H) : ∃ places, DataW.whole enc Try.prog ((World.holding Try.prog os ⟨#[], #[], []⟩).forCall (fun _ _ => 0) ⟨#[], #[Value.int .i64 0, Value.agg #[.int .i64 0, .int .i64 0, .int .i64 0], Value.slice none 0 0], []⟩).memory Try.f4.params.toList Rows.diffEntailsSpec.vars false #[Value.int .i64 0, Value.agg #[.int .i64 0, .int .i64 0, .int .i64 0], Value.slice none 0 0].toList 8 = some ([.lit (.int .i64 0), .agg [.lit (.int .i64 0), .lit (.int .i64 0), .lit (.int .i64 0)], .nil], [], places) :=
  ⟨[], by kernel_rfl⟩

set_option maxRecDepth 100000 in
theorem diffEntails_lifted (os : Os) (started : os.Started) (H : Type) (enc : TypeId × Value → H) (F : Stop.Interp) :
    ReturnsInHanded {} Try.checked os 4 .any ((OpenSpec.ofChange Rows.diffEntailsSpec).preRow enc Try.prog Try.f4 Rows.diffEntailsRow.domain false Rows.diffEntailsRow.laid) (((OpenSpec.ofChange Rows.diffEntailsSpec).at F).post enc Try.prog Try.f4 false true false false) := by
  obtain ⟨places, hx⟩ := diffEntails_reads os enc
  refine returnsInHanded_of_row (C := Try.checked) (s := OpenSpec.ofChange Rows.diffEntailsSpec) own started (by kernel_rfl) Try.func4
    (witness_row_at (enc := enc) (C := Try.checked) false (World.holding Try.prog os ⟨#[], #[], []⟩) #[Value.int .i64 0, Value.agg #[.int .i64 0, .int .i64 0, .int .i64 0], Value.slice none 0 0] rfl (by kernel_rfl) (by kernel_rfl) (by kernel_rfl)
      (OpenSpec.preRow_of_cond 8 hx (by kernel_rfl) (fun k hk => by cases hk) (by kernel_rfl) (laidMet_of_run' 8 (by kernel_rfl) (by kernel_rfl)))) ?_
  intro W base args ds gs before hval hW _ _ hreach _ _ _
  exact ent_contract Try.params4 (by kernel_rfl) rfl (fun _ _ _ => rfl) diffEntails_walk W base args ds gs before hval hW hreach

theorem diffEntails_said : Rows.DiffEntailsSaid :=
  OpenClaim.holds_of_cond 4 Try.f4 rfl rfl rfl rfl rfl rfl rfl ⟨rfl, rfl, rfl, rfl, rfl⟩ rfl rfl rfl rfl rfl (by kernel_rfl) Try.func4 (by kernel_rfl)
    (of_decide_eq_true (by kernel_rfl)) (by unfold Func.isWrapper; first | (rw [if_pos (by decide +kernel)]; kernel_rfl) | (rw [if_neg (by decide +kernel)]; exact ⟨rfl, rfl⟩))
    (fun os started H enc _ F => by rw [OpenClaim.pre_eq_preRow]; exact diffEntails_lifted os started H enc F)

end Go.Proofs.Ytpoohappocehdaa
