/- Proved here: for every number that lychgatelaw01.LexValues is called with, in every memory in which lex's tables stand as the program's text lays them, the call returns true and the number reads as before. Conditions: the package-level tables lex.keys, lex.blanks and lex.pairs hold what their initialisers lay (the card ties them to the program's text). -/
import Derived.Test.YtafhpckhjncecaaDoorTabs
import Derived.Test.YtafhpckhjncecaaDoorDigits
import Derived.Deep.RegionHeld3
import Derived.Deep.DeepCutAuto
namespace Go.Proofs.YtafhpckhjncecaaDoor
open Go.ChangeShapes Go.WideShapes Go.ChangeAt Go.RowKit

theorem conv_byte (W : World) (m : Nat) : (convert 37 9 (.slice (some ⟨W.heap.size, 0, none⟩) 1 1)).run Tryd.prog (W.alloc (.cells #[.int .u8 (48 + (m : Int) % 10)] 5)) = .ok (.string ⟨#[digByte m]⟩) (W.alloc (.cells #[.int .u8 (48 + (m : Int) % 10)] 5)) := by
  refine run_convert_bytes_back (P := Tryd.prog) _ 37 9 5 ⟨W.heap.size, 0, none⟩ 1 [digByte m] Tryd.underlying37 Tryd.underlying5 Tryd.underlying9 ?_
  intro j hj
  have hj0 : j = 0 := by simpa using hj
  subst hj0
  rw [Addr.add_mid, cell_of_row _ _ _ _ _ _ (heap_alloc_new W _)]
  show some (Value.int .u8 (48 + (m : Int) % 10)) = some (.int .u8 ((digByte m).toNat : Int))
  rw [digByte_nat]
  congr 2

theorem conv_zero (W : World) : (convert 37 9 (.slice (some ⟨W.heap.size, 0, none⟩) 1 1)).run Tryd.prog (W.alloc (.cells #[.int .u8 48] 5)) = .ok (.string ⟨#[digByte 0]⟩) (W.alloc (.cells #[.int .u8 48] 5)) := conv_byte W 0

theorem cat_bytes (b : UInt8) (l : List UInt8) : (⟨#[b]⟩ : ByteArray) ++ ⟨l.toArray⟩ = ⟨(b :: l).toArray⟩ := by
  apply bytes_ext
  rw [ByteArray.data_append]
  simp

set_option maxHeartbeats 1000000 in
theorem lexValues_walk (n : Int) (w : World) (ht : Tabs w) :
    Calls Tryd.prog 8 #[.int .i64 n] w fun e w' => e = .returned (.bool true) ∧ Below w.heap.size w w' := by
  go_enter Tryd.func8, Tryd.ntmps8
  go_upto_region 1 with fail
  go_cut [0] (fun s0 wx => ∃ M : Nat, s0 = .int .i64 M ∧ M ≤ 1099511627781 ∧ w = wx)
  case first =>
    go_wp2_with fail
    all_goals go_meet
    · exact ⟨1099511627781, rfl, by omega, rfl⟩
    · exact ⟨n.toNat, by rw [Int.toNat_of_nonneg (by omega)], by omega, rfl⟩
    · exact ⟨0, rfl, by omega, rfl⟩
  case rest =>
    obtain ⟨M, rfl, hM, rfl⟩ := hcut
    go_wp2
    go_loopg [3, 4] (M + 1) (fun g sv mv wr => ∃ (m : Nat) (l : List UInt8), sv = .string ⟨l.toArray⟩ ∧ mv = .int .i64 m ∧ DigInv M m l ∧ m ≤ M ∧ Below w.heap.size w wr ∧ m + (if l = [] then 1 else 0) ≤ g)
    case atStart => exact ⟨M, [], rfl, rfl, dig_start hM, Nat.le_refl _, Below.refl _ _, by simp⟩
    case round =>
      obtain ⟨m, l, rfl, rfl, hinv, hmM, hbel, hg⟩ := hrel
      have HI := Lib.hid hinv
      have HB := Lib.hid hbel
      have hz : w.heap.size ≤ wr.heap.size := hbel.size
      have hl4 := hinv.2.2.2.1
      clear hinv hbel
      by_cases hm : 0 < m
      · have hconv := conv_byte wr m
        have HS := Lib.hid (dig_step HI.out (Or.inl hm))
        go_wp2
        go_roundg (gk - 1)
        case measure => omega
        case rel => exact ⟨m / 10, digByte m :: l, congrArg Value.string (cat_bytes (digByte m) l), by simp, HS.out, by omega, HB.out.alloc hz _, by simp; omega⟩
      · obtain rfl : m = 0 := by omega
        by_cases hl : l = []
        · subst hl
          have hconv := conv_zero wr
          have HS := Lib.hid (dig_step HI.out (Or.inr rfl))
          go_wp2
          go_roundg (gk - 1)
          case measure => simp at hg; omega
          case rel => exact ⟨0, [digByte 0], congrArg Value.string (cat_bytes (digByte 0) []), by simp, HS.out, by omega, HB.out.alloc hz _, by simp⟩
        · have hle : l.isEmpty = false := by simp [hl]
          have htr := ht.below HB.out ht.size
          have h1 : (⟨l.toArray⟩ : ByteArray).size ≤ maxLen := by show l.toArray.size ≤ maxLen; simp; unfold maxLen; omega
          have h2 : (⟨(48 :: l).toArray⟩ : ByteArray).size ≤ maxLen := by show (48 :: l).toArray.size ≤ maxLen; simp; unfold maxLen; omega
          have HZ := Lib.hid (lex_zero HI.out hl)
          by_cases hbig : 1099511627776 < M
          · have HG := Lib.hid (lex_great HI.out hl hbig)
            have hbig' : 1099511627776 < (M : Int) := by omega
            go_wp2_with fail
            refine (tokens_any ⟨l.toArray⟩ wr h1 htr).mono ?_
            rw [HG.out]
            rintro e w1 ⟨rfl, hb1⟩
            have ht1 := htr.below hb1 htr.size
            have HB1 := Lib.hid (HB.out.trans (hb1.mono HB.out.size))
            clear hb1
            go_wp2_with fail
            rw [cat_bytes]
            refine (tokens_any ⟨(48 :: l).toArray⟩ w1 h2 ht1).mono ?_
            rw [HZ.out]
            rintro e w2 ⟨rfl, hb2⟩
            have ht2 := ht1.below hb2 ht1.size
            have HB2 := Lib.hid (HB1.out.trans (hb2.mono HB1.out.size))
            clear hb2
            go_wp2_with fail
            refine (wakes_any w2 ht2).mono ?_
            rintro e w3 ⟨rfl, hb3⟩
            have HB3 := Lib.hid (HB2.out.trans (hb3.mono HB2.out.size))
            clear hb3
            go_wp2
            go_ret
            exact ⟨rfl, HB3.out⟩
          · have HG := Lib.hid (lex_value HI.out hl (by omega))
            have hbig' : ¬ 1099511627776 < (M : Int) := by omega
            go_wp2_with fail
            refine (tokens_any ⟨l.toArray⟩ wr h1 htr).mono ?_
            rw [HG.out]
            rintro e w1 ⟨v, rfl, hown, hb1⟩
            have ht1 := htr.below hb1 htr.size
            have HB1 := Lib.hid (HB.out.trans (hb1.mono HB.out.size))
            have hown' : w1.ownsRow wr.heap.size 35 4 v 2 (cellsOf [⟨3, ⟨l.toArray⟩, M, 0⟩, ⟨0, ⟨#[]⟩, 0, l.length⟩]) := hown
            obtain ⟨g, cap, rfl, hg1, hg2⟩ := hown'.form (by omega)
            have c0 : w1.cell? ⟨g, 0, none⟩ = some (.int .i64 3) := hown'.cellAt 0 (by omega)
            have c2 : w1.cell? ⟨g, 2, none⟩ = some (.int .i64 M) := hown'.cellAt 2 (by omega)
            have C0 := Lib.hid c0
            have C2 := Lib.hid c2
            clear hb1 hown hown' c0 c2
            go_wp2_with fail
            rw [cat_bytes]
            refine (tokens_any ⟨(48 :: l).toArray⟩ w1 h2 ht1).mono ?_
            rw [HZ.out]
            rintro e w2 ⟨rfl, hb2⟩
            have ht2 := ht1.below hb2 ht1.size
            have HB2 := Lib.hid (HB1.out.trans (hb2.mono HB1.out.size))
            have D0 := Lib.hid ((hb2.cell (p := ⟨g, 0, none⟩) hg2).trans C0.out)
            have D2 := Lib.hid ((hb2.cell (p := ⟨g, 2, none⟩) hg2).trans C2.out)
            have hg3 : g < w2.heap.size := Nat.lt_of_lt_of_le hg2 hb2.size
            clear hb2
            go_wp2_with fail
            refine (wakes_any w2 ht2).mono ?_
            rintro e w3 ⟨rfl, hb3⟩
            have HB3 := Lib.hid (HB2.out.trans (hb3.mono HB2.out.size))
            have e0 : w3.cell? ⟨g, 0, none⟩ = some (.int .i64 3) := (hb3.cell (p := ⟨g, 0, none⟩) hg3).trans D0.out
            have e2 : w3.cell? ⟨g, 2, none⟩ = some (.int .i64 M) := (hb3.cell (p := ⟨g, 2, none⟩) hg3).trans D2.out
            clear hb3
            go_wp2
            go_ret
            exact ⟨rfl, HB3.out⟩

/- From the walk to what the row asks of a call with one number. -/
theorem int_contract {H : Type} {enc : TypeId × Value → H} {f : FuncId} {fn : Func} {sp : ChangeSpec} (hp : fn.params = #[2]) (hr : fn.resultTypes = #[4]) (hvars : sp.vars = [])
    (hfn : ∀ d : DataW H, sp.fn H [d] = { results := [.lit (.bool true)], args := [d] })
    (walk : ∀ (n : Int) (w : World), Tabs w → Calls Tryd.prog f #[.int .i64 n] w fun e w' => e = .returned (.bool true) ∧ Below w.heap.size w w')
    (W : World) (base : Nat) (args : Array Value) (ds gs : List (DataW H)) (before : List MemPlace)
    (hval : ∀ (j : Nat) t v, fn.params[j]? = some t → args[j]? = some v → Value.okWide Tryd.prog W .any base t v)
    (hW : DataW.Whole enc Tryd.prog fn.params.toList sp.vars false W args.toList ds gs before) (hL : laidMetH Tryd.prog laid3 W) :
    Calls Tryd.prog f args W fun e W' => ∃ v, e = .returned v ∧ sp.post enc Tryd.prog fn false true false false W args v W' := by
  have hW' := hW
  obtain ⟨p, q, hA0, hV, rfl, hfz, hnd⟩ := hW
  rw [hvars] at hV
  have hA : DataW.TrodAll enc Tryd.prog W 0 (fun _ => true) true fn.params.toList args.toList ds p := hA0
  rw [hp] at hA hval
  obtain ⟨v0, vs0, d0, ds0, p0, q0, hargs, rfl, rfl, h0, r0⟩ := trodAll_cons hA
  obtain ⟨rfl, rfl, rfl⟩ := trodAll_nil r0
  obtain rfl : args = #[v0] := by cases args; simp_all
  obtain ⟨rfl, rfl⟩ := trodVars_none hV
  obtain ⟨n, rfl, rfl, rfl, hn⟩ := open_int Tryd.underlying2 (hval 0 2 v0 rfl rfl) h0
  clear hA0
  refine (walk n W (tabs_of_laid hL)).mono fun e W' ⟨he, hb⟩ => ⟨_, he, ?_⟩
  refine ⟨_, _, _, [], [], [], hW', ?_, ?_, ?_, hb.frame _, fun h => by cases h⟩
  · rw [List.append_nil, hfn, hr]
    exact trodAll_cons_mk (shut_bool Tryd.underlying4 _) trodAll_mk0
  · rw [List.append_nil, hfn, hp]
    exact trodAll_cons_mk (shut_int Tryd.underlying2 hn) trodAll_mk0
  · rw [List.append_nil, hfn, hvars]
    rfl

theorem laid_met_int (os : Os) : laidMet Tryd.prog laid3 ((laidWorld os).forCall (fun _ _ => 0) ⟨#[], #[.int .i64 0], []⟩).memory :=
  laidMet_of_run' 8 (by kernel_rfl) (by kernel_rfl)

theorem lexValues_reads (os : Os) {H : Type} (enc : TypeId × Value → H) : ∃ places, DataW.whole enc Tryd.prog ((laidWorld os).forCall (fun _ _ => 0) ⟨#[], #[.int .i64 0], []⟩).memory Tryd.f8.params.toList Rows.lexValuesSpec.vars false #[Value.int .i64 0].toList 8 = some ([.lit (.int .i64 0)], [], places) :=
  ⟨[], by kernel_rfl⟩

set_option maxRecDepth 100000 in
theorem lexValues_lifted (os : Os) (started : os.Started) (H : Type) (enc : TypeId × Value → H) (F : Stop.Interp) :
    ReturnsInHanded {} Tryd.checked os 8 .any ((OpenSpec.ofChange Rows.lexValuesSpec).preRow enc Tryd.prog Tryd.f8 Rows.lexValuesRow.domain false Rows.lexValuesRow.laid) (((OpenSpec.ofChange Rows.lexValuesSpec).at F).post enc Tryd.prog Tryd.f8 false true false false) := by
  obtain ⟨places, hx⟩ := lexValues_reads os enc
  refine returnsInHanded_of_row (C := Tryd.checked) (s := OpenSpec.ofChange Rows.lexValuesSpec) own started (by kernel_rfl) Tryd.func8
    (witness_row_at (enc := enc) (C := Tryd.checked) false (laidWorld os) #[.int .i64 0] rfl (by kernel_rfl) (by kernel_rfl) (by kernel_rfl)
      (OpenSpec.preRow_of_cond 8 hx (by kernel_rfl) (fun k hk => by cases hk) (by kernel_rfl) (laid_met_int os))) ?_
  intro W base args ds gs before hval hW _ _ _ hL _ _
  exact int_contract Tryd.params8 (by kernel_rfl) rfl (fun _ => rfl) lexValues_walk W base args ds gs before hval hW hL

theorem lexValues_said : Rows.LexValuesSaid :=
  OpenClaim.holds_of_cond 8 Tryd.f8 rfl rfl rfl rfl rfl rfl rfl ⟨rfl, rfl, rfl, rfl, rfl⟩ rfl rfl rfl rfl rfl (by kernel_rfl) Tryd.func8 (by kernel_rfl)
    (of_decide_eq_true (by kernel_rfl)) (by unfold Func.isWrapper; first | (rw [if_pos (by decide +kernel)]; kernel_rfl) | (rw [if_neg (by decide +kernel)]; exact ⟨rfl, rfl⟩))
    (fun os started H enc _ F => by rw [OpenClaim.pre_eq_preRow]; exact lexValues_lifted os started H enc F)

theorem lexValues_plain (f : FuncId) (fn : Func) (hf : Tryd.pinned.checked.prog.funcNamed "lychgate/lychgatelaw01.LexValues" = some f) (hfn : Tryd.pinned.checked.prog.funcs[f]? = some fn) :
    false = Tryd.pinned.checked.prog.looks [] ∧ ∀ (j : Nat) t, fn.params[j]? = some t → Tryd.pinned.checked.prog.wantsStandIn t = false := by
  obtain rfl : f = 8 := Option.some.inj ((show Tryd.prog.funcNamed "lychgate/lychgatelaw01.LexValues" = some 8 by kernel_rfl).symm.trans hf) |>.symm
  obtain rfl : fn = Tryd.f8 := (Option.some.inj (Tryd.func8.symm.trans hfn)).symm
  refine ⟨by kernel_rfl, fun j t ht => ?_⟩
  rw [Tryd.params8] at ht
  obtain rfl : t = 2 := by simpa using Array.mem_of_getElem? ht
  exact (show Tryd.prog.wantsStandIn 2 = false by kernel_rfl)

theorem lexValues_card : Rows.LexValuesCardSaid :=
  Claim7.holds_tied_plain_at .later [] _ _ _ _ lexValues_said (fun _ h => by cases h) (by kernel_rfl) (fun _ h => by cases h) lexValues_row_tie rfl ⟨rfl, rfl⟩ (by kernel_rfl) rfl lexValues_plain (by kernel_rfl)

end Go.Proofs.YtafhpckhjncecaaDoor
