/- Proved here: for every text that lychgatelaw01.LexCovers is called with, in every memory in which lex's tables stand as the program's text lays them, the call returns true and the text reads as before. Conditions: the package-level tables lex.keys, lex.blanks and lex.pairs hold what their initialisers lay (the card ties them to the program's text). -/
import Derived.Test.YtafhpckhjncecaaDoorEnds
import Derived.Test.YtafhpckhjncecaaDoorGaps
import Derived.Lib.ConvBytes
namespace Go.Proofs.YtafhpckhjncecaaDoor
open Go.ChangeShapes Go.WideShapes Go.ChangeAt Go.ChangeMaps Go.RowKit

set_option maxHeartbeats 1000000 in
set_option maxRecDepth 100000 in
theorem lexCovers_no (s : ByteArray) (w : World) (hs : s.size ≤ maxLen) (ht : Tabs w) {k : Nat} {c : Int} (hno : lexAll s = .error (k, c)) :
    Calls Tryd.prog 5 #[.string s] w fun e w' => e = .returned (.bool true) ∧ Below w.heap.size w w' := by
  have HNO := Lib.hid hno
  have hc := lexAll_err hno
  have hca : (c != 0) = true := by rw [bne_iff_ne]; omega
  clear hno
  go_enter Tryd.func5, Tryd.ntmps5
  go_wp2_with fail
  refine (tokens_any s w hs ht).mono ?_
  rw [HNO.out]
  rintro e w1 ⟨rfl, hb1⟩
  have ht1 := ht.below hb1 ht.size
  have HB1 := Lib.hid hb1
  clear hb1
  go_wp2_with fail
  refine (wakes_any w1 ht1).mono ?_
  rintro e w2 ⟨rfl, hb2⟩
  have ht2 := ht1.below hb2 ht1.size
  have HB2 := Lib.hid (HB1.out.trans (hb2.mono HB1.out.size))
  clear hb2
  go_wp2_with fail
  refine (wakes_any w2 ht2).mono ?_
  rintro e w3 ⟨rfl, hb3⟩
  have HB3 := Lib.hid (HB2.out.trans (hb3.mono HB2.out.size))
  clear hb3
  go_wp2
  go_ret
  exact ⟨rfl, HB3.out⟩

theorem below_bytes {B : Nat} {a w : World} (h : Below B a w) (hB : B ≤ w.heap.size) (e : TypeId) (s : ByteArray) : Below B a (Lib.bytesWorld w e s) :=
  h.trans ⟨rfl, rfl, rfl, by rw [Lib.bytesWorld_size]; omega, fun i hi => Lib.bytesWorld_at_old w e s i (by omega)⟩

set_option maxHeartbeats 1000000 in
set_option maxRecDepth 100000 in
theorem lexCovers_yes (s : ByteArray) (ts : List Tok) (w : World) (hs : s.size ≤ maxLen) (ht : Tabs w) (h : lexAll s = .ok ts) :
    Calls Tryd.prog 5 #[.string s] w fun e w' => e = .returned (.bool true) ∧ Below w.heap.size w w' := by
  have hsz : s.size ≤ 16384 := by
    unfold lexAll at h
    split at h
    · cases h
    · omega
  have h' : lexFrom s 0 = .ok ts := by unfold lexAll at h; rw [if_neg (by omega)] at h; exact h
  have hn : 0 < ts.length := List.length_pos_iff.2 (lex_ok_ne _ _ h')
  have hl := lex_len 0 ts (by omega) h'
  have HCOV := Lib.hid (lex_cov h')
  have HR := Lib.hid h
  clear h h'
  go_enter Tryd.func5, Tryd.ntmps5
  go_wp2_with fail
  refine (tokens_any s w hs ht).mono ?_
  rw [HR.out]
  rintro e w1 ⟨va, rfl, hown, hb1⟩
  have ht1 := ht.below hb1 ht.size
  obtain ⟨ga, ca, rfl, hga1, hga2, hca, hra⟩ := row_of_own hown hn
  have HB1 := Lib.hid hb1
  have HRA := Lib.hid hra
  clear hb1 hown hra
  go_wp2_with fail
  refine (wakes_any w1 ht1).mono ?_
  rintro e w2 ⟨rfl, hb2⟩
  have HB2 := Lib.hid (HB1.out.trans (hb2.mono HB1.out.size))
  have HRA2 := Lib.hid (HRA.out.below hb2 hga2)
  have hga3 : ga < w2.heap.size := Nat.lt_of_lt_of_le hga2 hb2.size
  clear hb2 HRA HB1
  go_wp2
  go_loopw [6, 32] (fun av i wr => ∃ (k a : Nat), k ≤ ts.length ∧ i = .int .i64 k ∧ av = .int .i64 a ∧ (k < ts.length → Cov s a (ts.drop k)) ∧ (k = ts.length → a = s.size) ∧ a ≤ s.size ∧ Below w2.heap.size w2 wr) (fun _ i _ => ts.length - (intOf i).toNat)
  case atStart => exact ⟨0, 0, by omega, rfl, rfl, fun _ => HCOV.out, fun h => by omega, by omega, Below.refl _ _⟩
  case round =>
    obtain ⟨k, a, hk, rfl, rfl, hcov, hend, has, hbr⟩ := hrel
    by_cases hlt : k < ts.length
    · have hka : ts[k]? = some ts[k] := List.getElem?_eq_getElem hlt
      have hcov' := hcov hlt
      rw [List.drop_eq_getElem_cons hlt] at hcov'
      obtain ⟨v1, v2, v3, v4, v5, v6, v7⟩ := hcov'
      have hlast : ts.drop (k + 1) = [] ↔ k + 1 = ts.length := by
        rw [List.drop_eq_nil_iff]; omega
      have hkind : ts[k].kind = 0 ↔ k + 1 = ts.length := v4.trans hlast
      have HN1 := Lib.hid (show k + 1 < ts.length → Cov s (ts[k].place + ts[k].text.size) (ts.drop (k + 1)) from fun h => v7 (fun h0 => by have := hlast.1 h0; omega))
      have HN2 := Lib.hid (show k + 1 = ts.length → ts[k].place + ts[k].text.size = s.size from fun h => v6 (hlast.2 h))
      obtain ⟨a0, a1, a2, a3⟩ := HRA2.out.below hbr hga3 k _ hka
      generalize ts[k] = t at *
      have hz := hbr.size
      have hga4 : ga < wr.heap.size := by omega
      have HBR := Lib.hid hbr
      have HX := Lib.hid v3
      have HG := Lib.hid v5
      clear hka hbr hcov hend v3 v4 v5 v6 v7
      have t1 : decide ((t.place : Int) < (a : Int)) = false := by simp; omega
      have t2 : decide ((s.size : Int) < (t.place : Int) + (t.text.size : Int)) = false := by simp; omega
      have t3 : ((s.extract t.place (t.place + t.text.size)).toList == t.text.toList) = true := by rw [HX.out]; simp
      obtain ⟨bl, hbl⟩ : ∃ bl, bl = decide (k + 1 = ts.length) := ⟨_, rfl⟩
      have t4 : ((t.kind : Int) == 0) = bl := by
        rw [hbl, Bool.eq_iff_iff, beq_iff_eq, decide_eq_true_eq, ← hkind]; omega
      have t5 : ((k : Int) == (ts.length : Int) - 1) = bl := by
        rw [hbl, Bool.eq_iff_iff, beq_iff_eq, decide_eq_true_eq]; omega
      clear hkind hbl
      have hxs : (s.extract a t.place).size = t.place - a := extract_size' _ _ _ (by omega)
      have hmin : min t.place s.size = t.place := Nat.min_eq_left (by omega)
      have hconv := fun W => Lib.run_convert_string_bytes (P := Tryd.prog) W 9 37 5 (s.extract a t.place) Tryd.underlying9 Tryd.underlying37 Tryd.underlying5
      clear hxs
      go_wp2
      have u1 : decide (t.place < a) = false := by simp; omega
      have q3 : 0 ≤ (t.place : Int) + (t.text.size : Int) := by omega
      have q5 : (t.place : Int) + (t.text.size : Int) ≤ (s.size : Int) := by omega
      have q6 : (t.place : Int) ≤ (t.place : Int) + (t.text.size : Int) := by omega
      have q1 : IntKind.i64.wrap ((t.place : Int) + (t.text.size : Int)) = (t.place : Int) + (t.text.size : Int) := IntWalk.i64_in _ (by omega)
      have q7 : IntKind.i64.wrap ((ts.length : Int) - 1) = (ts.length : Int) - 1 := IntWalk.i64_in _ (by omega)
      have q4 : ((t.place : Int) + (t.text.size : Int)).toNat = t.place + t.text.size := by omega
      go_quiet (fail)
      clear u1 q3 q5 q6 q1 q7 q4
      go_wp2
      generalize hW : Lib.bytesWorld ((wr.alloc (Obj.cells #[Value.int .i64 t.kind, Value.string t.text, Value.int .i64 t.num, Value.int .i64 t.place] 35)).drewN nq) 5 (s.extract a t.place) = W
      have HW1 := Lib.hid (show Below w2.heap.size w2 W from hW ▸ below_bytes (below_draws (HBR.out.alloc hz _) nq) (by simp; omega) _ _)
      have HWC := Lib.hid (show ∀ j, j < t.place - a → W.cell? ⟨wr.heap.size + 1, j, none⟩ = some (.int .u8 (bat s (a + j)).toNat) from fun j hj => by
        have hc := Lib.bytesWorld_cell ((wr.alloc (Obj.cells #[Value.int .i64 t.kind, Value.string t.text, Value.int .i64 t.num, Value.int .i64 t.place] 35)).drewN nq) 5 (s.extract a t.place) j (by rw [extract_size' _ _ _ (by omega)]; exact hj)
        rw [hW, gap_list s a t.place v1, gap_get s a t.place j (by omega) hj] at hc
        simpa using hc)
      have c1 : W.cell? ⟨wr.heap.size, 1, none⟩ = some (.string t.text) := by
        rw [← hW, Lib.bytesWorld_old _ _ _ _ (by simp)]
        simp
      have c3 : W.cell? ⟨wr.heap.size, 3, none⟩ = some (.int .i64 t.place) := by
        rw [← hW, Lib.bytesWorld_old _ _ _ _ (by simp)]
        simp
      clear hW hconv
      go_loop [9, 85] (fun rv i => ∃ (j : Nat) (r : Bool), j ≤ t.place - a ∧ i = .int .i64 j ∧ rv = .bool r ∧ (gapRun r ((gap s a t.place).drop j)).isSome = true) (fun _ i => t.place - a - (intOf i).toNat)
      case atStart => exact ⟨0, false, by omega, rfl, rfl, HG.out⟩
      case round =>
        obtain ⟨j, r, hj, rfl, rfl, hgr⟩ := hrel
        by_cases hjl : j < t.place - a
        · rw [gap_drop s a t.place j (by omega) hjl] at hgr
          obtain ⟨hg1, hg2⟩ := gap_next hgr
          have hcell := HWC.out j hjl
          generalize bat s (a + j) = b at *
          have HG1 := Lib.hid hg1
          have HG2 := Lib.hid hg2
          have f35 := Lib.hid (byte_is (b := b) (n := 35) (by omega))
          have f32 := Lib.hid (byte_is (b := b) (n := 32) (by omega))
          have f10 := Lib.hid (byte_is (b := b) (n := 10) (by omega))
          clear hgr hg1 hg2
          have hjl' : (j : Int) < ((t.place - a : Nat) : Int) := by omega
          cases h35 : ((b.toNat : Int) == 35)
          · have n35 : (b == 35) = false := f35.out.symm.trans h35
            cases r
            · have HN := Lib.hid (show gapStep false b = false by unfold gapStep; rw [n35]; rfl)
              cases h32 : ((b.toNat : Int) == 32)
              · have h10 : ((b.toNat : Int) == 10) = true := by
                  have h2 := HG2.out
                  rw [HN.out, show (b == 32) = false from f32.out.symm.trans h32] at h2
                  exact f10.out.trans (by simpa using h2)
                have g10 : ((b.toNat : Int) != 10) = false := by rw [bne, h10]; rfl
                have g32 : ((b.toNat : Int) != 32) = true := by rw [bne, h32]; rfl
                clear n35
                go_wp2
                go_round
                case rel => exact ⟨j + 1, false, by omega, by go_num, rfl, by have h2 := HG1.out; rw [HN.out] at h2; exact h2⟩
                case measure => simp [intOf]; omega
              · have g32 : ((b.toNat : Int) != 32) = false := by rw [bne, h32]; rfl
                clear n35
                go_wp2
                go_round
                case rel => exact ⟨j + 1, false, by omega, by go_num, rfl, by have h2 := HG1.out; rw [HN.out] at h2; exact h2⟩
                case measure => simp [intOf]; omega
            · cases h10 : ((b.toNat : Int) == 10)
              · have HN := Lib.hid (show gapStep true b = true by unfold gapStep; rw [n35, show (b != 10) = true by have h2 : (b == 10) = false := f10.out.symm.trans h10; simp [bne, h2]]; rfl)
                have g10 : ((b.toNat : Int) != 10) = true := by rw [bne, h10]; rfl
                clear n35
                go_wp2
                go_round
                case rel => exact ⟨j + 1, true, by omega, by go_num, rfl, by have h2 := HG1.out; rw [HN.out] at h2; exact h2⟩
                case measure => simp [intOf]; omega
              · have HN := Lib.hid (show gapStep true b = false by unfold gapStep; rw [n35, show (b != 10) = false by have h2 : (b == 10) = true := f10.out.symm.trans h10; simp [bne, h2]]; rfl)
                have h32 : ((b.toNat : Int) == 32) = false := by
                  rw [beq_iff_eq] at h10
                  rw [beq_eq_false_iff_ne]
                  omega
                have g10 : ((b.toNat : Int) != 10) = false := by rw [bne, h10]; rfl
                have g32 : ((b.toNat : Int) != 32) = true := by rw [bne, h32]; rfl
                clear n35
                go_wp2
                go_round
                case rel => exact ⟨j + 1, false, by omega, by go_num, rfl, by have h2 := HG1.out; rw [HN.out] at h2; exact h2⟩
                case measure => simp [intOf]; omega
          · have HN := Lib.hid (show gapStep r b = true by unfold gapStep; rw [show (b == 35) = true from f35.out.symm.trans h35]; rfl)
            go_wp2
            go_round
            case rel => exact ⟨j + 1, true, by omega, by go_num, rfl, by have h2 := HG1.out; rw [HN.out] at h2; exact h2⟩
            case measure => simp [intOf]; omega
        · have hjl' : ¬ (j : Int) < ((t.place - a : Nat) : Int) := by omega
          have hsum : (t.place : Int) + (t.text.size : Int) ≤ 16384 := by omega
          clear hgr
          go_wp2
          go_roundw
          case rel => exact ⟨k + 1, t.place + t.text.size, by omega, by go_num, by go_num, HN1.out, HN2.out, by omega, HW1.out⟩
          case measure => simp [intOf]; omega
    · obtain rfl : k = ts.length := by omega
      obtain rfl : a = s.size := hend rfl
      have HBR := Lib.hid (HB2.out.trans (hbr.mono HB2.out.size))
      clear hcov hend hbr
      go_wp2
      go_ret
      exact ⟨rfl, HBR.out⟩

theorem lexCovers_walk (s : ByteArray) (w : World) (hs : s.size ≤ maxLen) (ht : Tabs w) :
    Calls Tryd.prog 5 #[.string s] w fun e w' => e = .returned (.bool true) ∧ Below w.heap.size w w' := by
  cases h : lexAll s with
  | ok ts => exact lexCovers_yes s ts w hs ht h
  | error x => obtain ⟨k, c⟩ := x; exact lexCovers_no s w hs ht h

theorem lexCovers_reads (os : Os) {H : Type} (enc : TypeId × Value → H) : ∃ places, DataW.whole enc Tryd.prog ((laidWorld os).forCall (fun _ _ => 0) ⟨#[], #[.string ⟨#[]⟩], []⟩).memory Tryd.f5.params.toList Rows.lexCoversSpec.vars false #[Value.string ⟨#[]⟩].toList 8 = some ([.lit (.string [])], [], places) :=
  ⟨[], by kernel_rfl⟩

set_option maxRecDepth 100000 in
theorem lexCovers_lifted (os : Os) (started : os.Started) (H : Type) (enc : TypeId × Value → H) (F : Stop.Interp) :
    ReturnsInHanded {} Tryd.checked os 5 .any ((OpenSpec.ofChange Rows.lexCoversSpec).preRow enc Tryd.prog Tryd.f5 Rows.lexCoversRow.domain false Rows.lexCoversRow.laid) (((OpenSpec.ofChange Rows.lexCoversSpec).at F).post enc Tryd.prog Tryd.f5 false true false false) := by
  obtain ⟨places, hx⟩ := lexCovers_reads os enc
  refine returnsInHanded_of_row (C := Tryd.checked) (s := OpenSpec.ofChange Rows.lexCoversSpec) own started (by kernel_rfl) Tryd.func5
    (witness_row_at (enc := enc) (C := Tryd.checked) false (laidWorld os) #[.string ⟨#[]⟩] rfl (by kernel_rfl) (by kernel_rfl) (by kernel_rfl)
      (OpenSpec.preRow_of_cond 8 hx (by kernel_rfl) (fun k hk => by cases hk) (by kernel_rfl) (laid_met_text os))) ?_
  intro W base args ds gs before hval hW _ _ _ hL _ _
  exact text_contract Tryd.params5 (by kernel_rfl) rfl (fun _ => rfl) lexCovers_walk W base args ds gs before hval hW hL

theorem lexCovers_said : Rows.LexCoversSaid :=
  OpenClaim.holds_of_cond 5 Tryd.f5 rfl rfl rfl rfl rfl rfl rfl ⟨rfl, rfl, rfl, rfl, rfl⟩ rfl rfl rfl rfl rfl (by kernel_rfl) Tryd.func5 (by kernel_rfl)
    (of_decide_eq_true (by kernel_rfl)) (by unfold Func.isWrapper; first | (rw [if_pos (by decide +kernel)]; kernel_rfl) | (rw [if_neg (by decide +kernel)]; exact ⟨rfl, rfl⟩))
    (fun os started H enc _ F => by rw [OpenClaim.pre_eq_preRow]; exact lexCovers_lifted os started H enc F)

theorem lexCovers_plain (f : FuncId) (fn : Func) (hf : Tryd.pinned.checked.prog.funcNamed "lychgate/lychgatelaw01.LexCovers" = some f) (hfn : Tryd.pinned.checked.prog.funcs[f]? = some fn) :
    false = Tryd.pinned.checked.prog.looks [] ∧ ∀ (j : Nat) t, fn.params[j]? = some t → Tryd.pinned.checked.prog.wantsStandIn t = false := by
  obtain rfl : f = 5 := Option.some.inj ((show Tryd.prog.funcNamed "lychgate/lychgatelaw01.LexCovers" = some 5 by kernel_rfl).symm.trans hf) |>.symm
  obtain rfl : fn = Tryd.f5 := (Option.some.inj (Tryd.func5.symm.trans hfn)).symm
  refine ⟨by kernel_rfl, fun j t ht => ?_⟩
  rw [Tryd.params5] at ht
  obtain rfl : t = 9 := by simpa using Array.mem_of_getElem? ht
  exact (show Tryd.prog.wantsStandIn 9 = false by kernel_rfl)

theorem lexCovers_card : Rows.LexCoversCardSaid :=
  Claim7.holds_tied_plain_at .later [] _ _ _ _ lexCovers_said (fun _ h => by cases h) (by kernel_rfl) (fun _ h => by cases h) lexCovers_row_tie rfl ⟨rfl, rfl⟩ (by kernel_rfl) rfl lexCovers_plain (by kernel_rfl)

end Go.Proofs.YtafhpckhjncecaaDoor
