/- Proved here: for every text that lychgatelaw07.CodeRises is called with, in every memory in which lex's tables stand as the program's text lays them, the call returns true and the text reads as before. Conditions: the package-level tables lex.keys, lex.blanks and lex.pairs hold what their initialisers lay (the card ties them to the program's text). -/
import Derived.Test.YtnmpfpnldcgbaaaDoorP34
import Derived.Test.YtnmpfpnldcgbaaaDoorP36
import Derived.Test.YtnmpfpnldcgbaaaDoorP03
import Derived.Test.YtnmpfpnldcgbaaaDoorP35
import Derived.BigQuiet
namespace Go.Proofs.YtnmpfpnldcgbaaaDoor
open Go.ChangeShapes Go.WideShapes Go.ChangeAt Go.RowKit

/- What the law asks of a function's list, whatever the declaration is. -/
def RsL (L : List Ins) : Prop := ∀ (j : Nat) (x y : Ins), L[j]? = some x → L[j + 1]? = some y → j + 2 < L.length → (∀ (i : Nat) (z : Ins), i ≤ j + 1 → L[i]? = some z → z.op ≠ 10) → x.place < y.place
theorem any_rises {t : T} (hw : t.whole) (hr : RiseFn t) : RsL (lowerI t).list := by
  intro j x y hx hy hl hb
  by_cases h6 : t.kind = 6
  · exact fn_rises hw hr h6 hx hy hl hb
  · rw [fn_not h6] at hx; simp [cod0] at hx
theorem any_len {t : T} (hw : t.whole) (hs : t.size ≤ 4096) : (lowerI t).list.length ≤ 8193 := by
  by_cases h6 : t.kind = 6
  · rw [fn_count hw h6 (by omega)]
    have := ccount_le t
    omega
  · rw [fn_not h6]; simp [cod0]
theorem below_nq {B : Nat} {a w : World} (h : Below B a w) (n : Nat) : Below B a (w.drewN n) := ⟨h.os, h.tape, h.output, h.size, h.block⟩
def RsRel (w : World) (L : List Ins) (g : Nat) (i : Value) (wr : World) : Prop := ∃ k : Nat, k ≤ L.length ∧ L.length ≤ k + g ∧ i = .int .i64 k ∧ Below w.heap.size w wr ∧ ∀ i z, i < k → L[i]? = some z → z.op ≠ 10

/- The loop over the declarations: nothing that was in memory is changed. -/
def LpRel (w : World) (n : Nat) (g : Nat) (i : Value) (wr : World) : Prop := ∃ k : Nat, k ≤ n ∧ n ≤ k + g ∧ i = .int .i64 k ∧ Below w.heap.size w wr

set_option maxHeartbeats 4000000 in
set_option maxRecDepth 100000 in
theorem codeRises_walk (s : ByteArray) (w : World) (hs : s.size ≤ maxLen) (ht : Tabs w) :
    Calls Tryd.prog 7 #[.string s] w fun e w' => e = .returned (.bool true) ∧ Below w.heap.size w w' := by
  have HT := Lib.hid ht
  have HGD := Lib.hid (parse_good s)
  have HWH := Lib.hid (parse_whole s)
  have HRI := Lib.hid (parse_rise s)
  go_enter Tryd.func7, Tryd.ntmps7
  go_wp2_with fail
  refine (parse_any s w hs ht).mono ?_
  generalize parseB s = q at HGD HWH HRI
  obtain ⟨t, p, c⟩ := q
  rintro e w1 ⟨kv, rfl, hk, hb⟩
  have HK := Lib.hid (show KAt 25 w1 t.kids (fun b => w.heap.size ≤ b) kv from hk)
  have HB := Lib.hid hb
  have HT1 := Lib.hid (ht.below hb ht.size)
  have HO := Lib.hid HK.out.one
  clear hk hb ht
  have HG := Lib.hid (show t.size ≤ 4096 from HGD.out.2)
  have HW := Lib.hid (show t.whole from HWH.out.2)
  have HRI1 := Lib.hid (show ∀ k ∈ t.kids, RiseFn k from HRI.out)
  clear HRI
  have hsz : t.size ≤ 4096 := HG.out
  have HN := Lib.hid (show Blk _ w1.heap.size (nodeCells t kv) 25 from Blk.new w1 _ _)
  clear HGD HWH
  unfold NodeV
  go_wp2_with ((with_reducible refine at_st 25 (.tmp 3) ?_); refine wpList_store_new rfl 25 (.tmp 3) (.tmp 14) rfl (nodeCells t kv) (old := zeroNodeCells) rfl rfl Tryd.sizeNode rfl (nodeCells_one _ _ HO.out) ?_)
  refine (wakes7_any _ HT1.out.alloc).mono ?_
  rintro e w2 ⟨rfl, hb2⟩
  have HN2 := Lib.hid (HN.out.kp (Kp.of_below (pb := w2.heap.size) hb2) (by have := hb2.size; simp at this; omega))
  have HK2 := Lib.hid ((HK.out.alloc (.cells (nodeCells t kv).toArray 25)).below hb2)
  have HB2 := Lib.hid ((HB.out.alloc HB.out.size _).trans (hb2.mono (by simp; have := HB.out.size; omega)))
  have HT2 := Lib.hid (HT.out.below HB2.out HT.out.size)
  clear hb2 HN HK
  have hts : t.size = 1 + sizes t.kids := by cases t; rw [size_mk]; rfl
  have hkl : t.kids.length ≤ 4096 := by have h1 := len_sizes t.kids; omega
  by_cases hc : c = 0
  · subst hc
    rcases HK2.out.form with ⟨rfl, hnil⟩ | ⟨g, cap, rfl, hg, hcap, hcm, hget⟩
    · have c4 : w2.cell? ⟨w1.heap.size, 4, none⟩ = some (.slice none 0 0) := HN2.out.cell 4
      clear hnil hkl hts
      go_wp2_with fail
      refine wp_loop_rounds 1 ?_
      rw [rounds_succ]
      go_wp2_with fail
      go_ret
      exact ⟨rfl, HB2.out⟩
    · have c4 : w2.cell? ⟨w1.heap.size, 4, none⟩ = some (.slice (some ⟨g, 0, none⟩) t.kids.length cap) := HN2.out.cell 4
      have HGT := Lib.hid hget
      have HCAP := Lib.hid hcap
      have HTS := Lib.hid hts
      clear hget hcap hts
      unfold maxLen at hcm
      go_wp2_with fail
      go_loopg [27] t.kids.length (fun gk i wr => LpRel w2 t.kids.length gk i wr)
      case atStart => exact ⟨0, by omega, by omega, rfl, Below.refl _ _⟩
      case round =>
        obtain ⟨k, hk, hgk, rfl, hbel⟩ := hrel
        have HBW := Lib.hid hbel
        have hzw := hbel.size
        clear hbel
        by_cases hlt : k < t.kids.length
        · obtain ⟨u, hr, hT⟩ := HGT.out k t.kids[k] (List.getElem?_eq_getElem hlt)
          have hne := List.getElem?_eq_getElem hlt
          have hks := sizes_mem hne
          generalize t.kids[k] = tk at hr hT hne hks
          have HR := Lib.hid (rangeAt_below hr HBW.out hg)
          have HTK := Lib.hid (hT.below HBW.out)
          have HTW := Lib.hid (show tk.whole from wholes_mem (whole_eq.1 HW.out).2 (List.mem_of_getElem? hne))
          have HTZ := Lib.hid (show tk.size ≤ 4096 from by have := HTS.out; omega)
          have HRF := Lib.hid (HRI1.out tk (List.mem_of_getElem? hne))
          have hcap := HCAP.out
          have HBN := Lib.hid (HBW.out.alloc hzw (.cells (nodeCells tk u).toArray 25))
          clear hr hT hne hks
          obtain ⟨kk, kt, kn, kp, kks⟩ := tk
          go_wp2_with (first
            | ((with_reducible refine at_ld 25 (.tmp 29) ?_); refine wpList_load_mid rfl 25 (.tmp 29) rfl g (k * 5) rfl [.int .i64 kk, .string kt, .int .i64 kn, .int .i64 kp, u] _ HR.out Tryd.underlying25 rfl Tryd.sizeNode ?_)
            | ((with_reducible refine at_st 25 (.tmp 7) ?_); refine wpList_store_new rfl 25 (.tmp 7) (.tmp 30) rfl [.int .i64 kk, .string kt, .int .i64 kn, .int .i64 kp, u] (old := zeroNodeCells) rfl rfl Tryd.sizeNode rfl (nodeCells_one (T.mk kk kt kn kp kks) _ HTK.out.kat.one) ?_)
            | ((with_reducible refine at_ld 25 (.tmp 7) ?_); refine wpList_load_blk rfl 25 (.tmp 7) rfl wr.heap.size [.int .i64 kk, .string kt, .int .i64 kn, .int .i64 kp, u] rfl (Blk.new wr _ _) Tryd.underlying25 rfl Tryd.sizeNode ?_))
          refine (lower_any (t := T.mk kk kt kn kp kks) (HTK.out.alloc (.cells ([.int .i64 kk, .string kt, .int .i64 kn, .int .i64 kp, u]).toArray 25)).kat HTW.out (by have := HTZ.out; omega)).mono ?_
          rintro e w3 ⟨pv, lv, rfl, hcd, hb3⟩
          have HB3 := Lib.hid (HBN.out.trans (hb3.mono (by simp; omega)))
          have hz3 := hb3.size
          have hlen := any_len HTW.out HTZ.out
          have HRS := Lib.hid (any_rises HTW.out HRF.out)
          have hf2 := fldCod2
          unfold CodV
          rcases hcd.2.form with ⟨rfl, hnil⟩ | ⟨g3, cap3, rfl, hg3, hcap3, hcm3, hget3⟩
          · clear hcd hb3 hnil
            go_wp2_with fail
            refine wp_loop_rounds 1 ?_
            rw [rounds_succ]
            go_wp2_with fail
            go_roundg (gk - 1)
            case measure => omega
            case rel => exact ⟨k + 1, by omega, by omega, by go_num, HB3.out⟩
          · have HG3 := Lib.hid hget3
            generalize (lowerI (T.mk kk kt kn kp kks)).list = L at HRS HG3 hlen hcap3
            clear hcd hb3 hget3
            unfold maxLen at hcm3
            go_wp2_with fail
            obtain ⟨go, hgo⟩ : ∃ go : Nat, gk = go + 0 := ⟨gk, rfl⟩
            go_loopg [36] L.length (fun gj i wr => RsRel w3 L gj i wr)
            case atStart => exact ⟨0, by omega, by omega, rfl, Below.refl _ _, fun i z h => by omega⟩
            case round =>
              rename World => wj
              obtain ⟨j, hj, hgj, rfl, hbj, hnb⟩ := hrel
              have HBJ := Lib.hid hbj
              have HNB := Lib.hid hnb
              have hzj := hbj.size
              clear hbj hnb
              by_cases hjl : j < L.length
              · obtain ⟨x, hx⟩ : ∃ x, L[j]? = some x := ⟨L[j], List.getElem?_eq_getElem _⟩
                obtain ⟨ux, rx, hax⟩ := HG3.out j x hx
                have HRX := Lib.hid (rangeAt_below rx HBJ.out hg3)
                have HOX := Lib.hid hax.one
                have HXE := Lib.hid hx
                have hg3j : g3 < wj.heap.size := by omega
                obtain ⟨xop, xpl, xx, xy, xa, xb, xar, xto, xha⟩ := x
                clear rx hax
                by_cases hop : xop = 10
                · subst hop
                  go_wp2_with (first
                    | ((with_reducible refine at_ld 43 (.tmp 39) ?_); refine wpList_load_mid rfl 43 (.tmp 39) rfl g3 (j * 11) rfl [.int .i64 10, .int .i64 xpl, .string xx, .string xy, .string xa.name, .int .i64 xa.num, .string xb.name, .int .i64 xb.num, ux, .int .i64 xto, .bool xha] _ HRX.out Tryd.underlying43 rfl Tryd.sizeInstr ?_)
                    | ((with_reducible refine at_st 43 (.tmp 10) ?_); refine wpList_store_new rfl 43 (.tmp 10) (.tmp 40) rfl [.int .i64 10, .int .i64 xpl, .string xx, .string xy, .string xa.name, .int .i64 xa.num, .string xb.name, .int .i64 xb.num, ux, .int .i64 xto, .bool xha] (old := insCells ins0 (.slice none 0 0)) rfl rfl Tryd.sizeInstr rfl (insCells_one ⟨10, xpl, xx, xy, xa, xb, xar, xto, xha⟩ ux HOX.out) ?_))
                  go_roundg (go - 1)
                  case measure => omega
                  case rel => exact ⟨k + 1, by omega, by omega, by go_num, HB3.out.trans ((HBJ.out.alloc hzj _).mono HB3.out.size)⟩
                · have b1 : (xop == 10) = false := by simp [hop]
                  rcases Nat.eq_zero_or_pos j with rfl | hpos
                  · clear hx
                    go_wp2_with (first
                      | ((with_reducible refine at_ld 43 (.tmp 39) ?_); refine wpList_load_mid rfl 43 (.tmp 39) rfl g3 (0 * 11) rfl [.int .i64 xop, .int .i64 xpl, .string xx, .string xy, .string xa.name, .int .i64 xa.num, .string xb.name, .int .i64 xb.num, ux, .int .i64 xto, .bool xha] _ HRX.out Tryd.underlying43 rfl Tryd.sizeInstr ?_)
                      | ((with_reducible refine at_st 43 (.tmp 10) ?_); refine wpList_store_new rfl 43 (.tmp 10) (.tmp 40) rfl [.int .i64 xop, .int .i64 xpl, .string xx, .string xy, .string xa.name, .int .i64 xa.num, .string xb.name, .int .i64 xb.num, ux, .int .i64 xto, .bool xha] (old := insCells ins0 (.slice none 0 0)) rfl rfl Tryd.sizeInstr rfl (insCells_one ⟨xop, xpl, xx, xy, xa, xb, xar, xto, xha⟩ ux HOX.out) ?_))
                    go_quiet (fail)
                    go_wp2
                    go_roundg (gk - 1)
                    case measure => omega
                    case rel =>
                      refine ⟨0 + 1, by omega, by omega, by go_num, below_nq (HBJ.out.alloc hzj _) _, fun a z hi hz => ?_⟩
                      rcases Nat.lt_or_ge a (0) with h | h
                      · exact HNB.out a z h hz
                      · obtain rfl : a = 0 := by omega
                        have h2 := HXE.out
                        rw [hz] at h2
                        cases h2
                        exact hop
                  · obtain ⟨i, rfl⟩ : ∃ i, j = i + 1 := ⟨j - 1, by omega⟩
                    obtain ⟨n, hn⟩ : ∃ n, L.length = n + 1 := ⟨L.length - 1, by omega⟩
                    have HNN := Lib.hid hn
                    have hwn : IntKind.i64.wrap ((L.length : Int) - 1) = (n : Int) := by rw [show (L.length : Int) - 1 = (n : Int) by omega]; exact IntWalk.i64_in _ (by omega)
                    have hwi2 : IntKind.i64.wrap (i : Int) = (i : Int) := IntWalk.i64_in _ (by omega)
                    clear hn
                    by_cases hq : i + 1 < n
                    · obtain ⟨y, hy⟩ : ∃ y, L[i]? = some y := ⟨L[i]'(by omega), List.getElem?_eq_getElem _⟩
                      obtain ⟨uy, ry, _⟩ := HG3.out i y hy
                      have hcy : wj.cell? ⟨g3, i * 11 + 1, none⟩ = some (.int .i64 y.place) := rangeAt_below ry HBJ.out hg3 1 _ rfl
                      have hlt : y.place < xpl := HRS.out _ _ _ hy hx (by have := HNN.out; omega) (fun a z ha hz => by
                        rcases Nat.lt_or_ge a (i + 1) with h | h
                        · exact HNB.out a z h hz
                        · obtain rfl : a = i + 1 := by omega
                          rw [hx] at hz
                          cases hz
                          exact hop)
                      have hwi : IntKind.i64.wrap ((i : Int) + 1 - 1) = (i : Int) := by rw [show (i : Int) + 1 - 1 = (i : Int) by omega]; exact IntWalk.i64_in _ (by omega)
                      have d3 : decide ((i : Int) + 1 < (n : Int)) = true := decide_eq_true (by omega)
                      have d1 : decide (i + 1 < n) = true := by simpa using hq
                      have d2 : decide (xpl ≤ y.place) = false := by simp; omega
                      generalize y.place = yp at hcy hlt d2
                      clear ry hy hx
                      go_wp2_with (first
                        | ((with_reducible refine at_ld 43 (.tmp 39) ?_); refine wpList_load_mid rfl 43 (.tmp 39) rfl g3 ((i + 1) * 11) rfl [.int .i64 xop, .int .i64 xpl, .string xx, .string xy, .string xa.name, .int .i64 xa.num, .string xb.name, .int .i64 xb.num, ux, .int .i64 xto, .bool xha] _ HRX.out Tryd.underlying43 rfl Tryd.sizeInstr ?_)
                        | ((with_reducible refine at_st 43 (.tmp 10) ?_); refine wpList_store_new rfl 43 (.tmp 10) (.tmp 40) rfl [.int .i64 xop, .int .i64 xpl, .string xx, .string xy, .string xa.name, .int .i64 xa.num, .string xb.name, .int .i64 xb.num, ux, .int .i64 xto, .bool xha] (old := insCells ins0 (.slice none 0 0)) rfl rfl Tryd.sizeInstr rfl (insCells_one ⟨xop, xpl, xx, xy, xa, xb, xar, xto, xha⟩ ux HOX.out) ?_))
                      go_quiet (fail)
                      go_wp2
                      go_roundg (gk - 1)
                      case measure => omega
                      case rel =>
                        refine ⟨i + 1 + 1, by omega, by omega, by go_num, below_nq (HBJ.out.alloc hzj _) _, fun a z hi hz => ?_⟩
                        rcases Nat.lt_or_ge a (i + 1) with h | h
                        · exact HNB.out a z h hz
                        · obtain rfl : a = i + 1 := by omega
                          have h2 := HXE.out
                          rw [hz] at h2
                          cases h2
                          exact hop
                    · have d1 : decide (i + 1 < n) = false := by simpa using hq
                      have d3 : decide ((i : Int) + 1 < (n : Int)) = false := decide_eq_false (by omega)
                      clear hx
                      go_wp2_with (first
                        | ((with_reducible refine at_ld 43 (.tmp 39) ?_); refine wpList_load_mid rfl 43 (.tmp 39) rfl g3 ((i + 1) * 11) rfl [.int .i64 xop, .int .i64 xpl, .string xx, .string xy, .string xa.name, .int .i64 xa.num, .string xb.name, .int .i64 xb.num, ux, .int .i64 xto, .bool xha] _ HRX.out Tryd.underlying43 rfl Tryd.sizeInstr ?_)
                        | ((with_reducible refine at_st 43 (.tmp 10) ?_); refine wpList_store_new rfl 43 (.tmp 10) (.tmp 40) rfl [.int .i64 xop, .int .i64 xpl, .string xx, .string xy, .string xa.name, .int .i64 xa.num, .string xb.name, .int .i64 xb.num, ux, .int .i64 xto, .bool xha] (old := insCells ins0 (.slice none 0 0)) rfl rfl Tryd.sizeInstr rfl (insCells_one ⟨xop, xpl, xx, xy, xa, xb, xar, xto, xha⟩ ux HOX.out) ?_))
                      go_quiet (fail)
                      go_wp2
                      go_roundg (gk - 1)
                      case measure => omega
                      case rel =>
                        refine ⟨i + 1 + 1, by omega, by omega, by go_num, below_nq (HBJ.out.alloc hzj _) _, fun a z hi hz => ?_⟩
                        rcases Nat.lt_or_ge a (i + 1) with h | h
                        · exact HNB.out a z h hz
                        · obtain rfl : a = i + 1 := by omega
                          have h2 := HXE.out
                          rw [hz] at h2
                          cases h2
                          exact hop
              · go_wp2
                go_roundg (go - 1)
                case measure => omega
                case rel => exact ⟨k + 1, by omega, by omega, by go_num, HB3.out.trans (HBJ.out.mono HB3.out.size)⟩
        · go_wp2
          go_ret
          exact ⟨rfl, HB2.out.trans (HBW.out.mono HB2.out.size)⟩
  · go_wp2_with fail
    refine (wakes7_any _ HT2.out).mono ?_
    rintro e w3 ⟨rfl, hb3⟩
    have HB3 := Lib.hid (HB2.out.trans (hb3.mono HB2.out.size))
    clear hb3
    go_wp2_with fail
    go_ret
    exact ⟨rfl, HB3.out⟩

theorem codeRises_reads (os : Os) {H : Type} (enc : TypeId × Value → H) : ∃ places, DataW.whole enc Tryd.prog ((laidWorld os).forCall (fun _ _ => 0) ⟨#[], #[.string ⟨#[]⟩], []⟩).memory Tryd.f7.params.toList Rows.codeRisesSpec.vars false #[Value.string ⟨#[]⟩].toList 8 = some ([.lit (.string [])], [], places) :=
  ⟨[], by kernel_rfl⟩

set_option maxRecDepth 100000 in
theorem codeRises_lifted (os : Os) (started : os.Started) (H : Type) (enc : TypeId × Value → H) (F : Stop.Interp) :
    ReturnsInHanded {} Tryd.checked os 7 .any ((OpenSpec.ofChange Rows.codeRisesSpec).preRow enc Tryd.prog Tryd.f7 Rows.codeRisesRow.domain false Rows.codeRisesRow.laid) (((OpenSpec.ofChange Rows.codeRisesSpec).at F).post enc Tryd.prog Tryd.f7 false true false false) := by
  obtain ⟨places, hx⟩ := codeRises_reads os enc
  refine returnsInHanded_of_row (C := Tryd.checked) (s := OpenSpec.ofChange Rows.codeRisesSpec) own started (by kernel_rfl) Tryd.func7
    (witness_row_at (enc := enc) (C := Tryd.checked) false (laidWorld os) #[.string ⟨#[]⟩] rfl (by kernel_rfl) (by kernel_rfl) (by kernel_rfl)
      (OpenSpec.preRow_of_cond 8 hx (by kernel_rfl) (fun k hk => by cases hk) (by kernel_rfl) (laid_met_text os))) ?_
  intro W base args ds gs before hval hW _ _ _ hL _ _
  exact text_contract Tryd.params7 (by kernel_rfl) rfl (fun _ => rfl) codeRises_walk W base args ds gs before hval hW hL

theorem codeRises_said : Rows.CodeRisesSaid :=
  OpenClaim.holds_of_cond 7 Tryd.f7 rfl rfl rfl rfl rfl rfl rfl ⟨rfl, rfl, rfl, rfl, rfl⟩ rfl rfl rfl rfl rfl (by kernel_rfl) Tryd.func7 (by kernel_rfl)
    (of_decide_eq_true (by kernel_rfl)) (by unfold Func.isWrapper; first | (rw [if_pos (by decide +kernel)]; kernel_rfl) | (rw [if_neg (by decide +kernel)]; exact ⟨rfl, rfl⟩))
    (fun os started H enc _ F => by rw [OpenClaim.pre_eq_preRow]; exact codeRises_lifted os started H enc F)

theorem codeRises_plain (f : FuncId) (fn : Func) (hf : Tryd.pinned.checked.prog.funcNamed "lychgate/lychgatelaw07.CodeRises" = some f) (hfn : Tryd.pinned.checked.prog.funcs[f]? = some fn) :
    true = Tryd.pinned.checked.prog.looks [] ∧ ∀ (j : Nat) t, fn.params[j]? = some t → Tryd.pinned.checked.prog.wantsStandIn t = false := by
  obtain rfl : f = 7 := Option.some.inj ((show Tryd.prog.funcNamed "lychgate/lychgatelaw07.CodeRises" = some 7 by kernel_rfl).symm.trans hf) |>.symm
  obtain rfl : fn = Tryd.f7 := (Option.some.inj (Tryd.func7.symm.trans hfn)).symm
  refine ⟨by kernel_rfl, fun j t ht => ?_⟩
  rw [Tryd.params7] at ht
  obtain rfl : t = 9 := by simpa using Array.mem_of_getElem? ht
  exact (show Tryd.prog.wantsStandIn 9 = false by kernel_rfl)

theorem codeRises_card : Rows.CodeRisesCardSaid :=
  Claim7.holds_tied_plain_at .later [] _ _ _ _ codeRises_said (fun _ h => by cases h) (by kernel_rfl) (fun _ h => by cases h) codeRises_row_tie rfl ⟨rfl, rfl⟩ (by kernel_rfl) rfl codeRises_plain (by kernel_rfl)

end Go.Proofs.YtnmpfpnldcgbaaaDoor
