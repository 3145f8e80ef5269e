/- Proved here: for every text that lychgatelaw07.CodeJumps is called with, in every memory in which lex's tables stand as the program's text lays them, the call returns true and the text reads as before. Conditions: the package-level tables lex.keys, lex.blanks and lex.pairs hold what their initialisers lay (the card ties them to the program's text). -/
import Derived.Test.YtnmpfpnldcgbaaaDoorP34
import Derived.Test.YtnmpfpnldcgbaaaDoorP36
import Derived.Test.YtnmpfpnldcgbaaaDoorP03
namespace Go.Proofs.YtnmpfpnldcgbaaaDoor
open Go.ChangeShapes Go.WideShapes Go.ChangeAt Go.RowKit

/- What the law asks of the jumps of a function's list. -/
theorem fn_jumps2 {t : T} (hw : t.whole) (h6 : t.kind = 6) (hs : t.size ≤ 5000) : ∃ m, (lowerI t).list.length = m + 1 ∧ (∃ y, (lowerI t).list[m]? = some y ∧ y.op = 14) ∧ ∀ (j : Nat) (x : Ins), (lowerI t).list[j]? = some x →
    (x.op = 10 ∧ j < x.to ∧ x.to < m + 1) ∨ (x.op = 11 ∧ x.to < m + 1 ∧ x.to ≠ j ∧ (x.to < j → ∃ y, (lowerI t).list[x.to]? = some y ∧ y.op = 10)) ∨ (x.op ≠ 10 ∧ x.op ≠ 11 ∧ x.to = 0) := by
  obtain ⟨B, b, hl, hj⟩ := fn_jumps hw h6 hs
  rw [hl]
  refine ⟨B.length, by simp, ⟨retI b, by simp, rfl⟩, fun j x hx => ?_⟩
  rcases Nat.lt_or_ge j B.length with hjl | hjl
  · rw [List.getElem?_append_left hjl] at hx
    obtain ⟨h1, h2, h3⟩ := hj j x hx
    by_cases e1 : x.op = 10
    · exact .inl ⟨e1, by have := (h1 e1).1; omega, by have := (h1 e1).2; omega⟩
    · by_cases e2 : x.op = 11
      · obtain ⟨h4, h5, h6⟩ := h2 e2
        refine .inr (.inl ⟨e2, by omega, by omega, fun hlt => ?_⟩)
        obtain ⟨_, y, hy, ho⟩ := h6 (by omega)
        have hlt2 := (List.getElem?_eq_some_iff.1 hy).1
        exact ⟨y, by rw [List.getElem?_append_left (by simpa using hlt2)]; simpa using hy, ho⟩
      · exact .inr (.inr ⟨e1, e2, h3 e1 e2⟩)
  · rw [List.getElem?_append_right hjl] at hx
    cases hq : j - B.length with
    | zero =>
      rw [hq] at hx
      obtain rfl : retI b = x := by simpa using hx
      exact .inr (.inr ⟨by show (14 : Int) ≠ 10; decide, by show (14 : Int) ≠ 11; decide, rfl⟩)
    | succ q => rw [hq] at hx; simp at hx

/- The loop over the declarations: nothing that was in memory is changed. -/
def LpRel (w : World) (n : Nat) (g : Nat) (i : Value) (wr : World) : Prop := ∃ k : Nat, k ≤ n ∧ n ≤ k + g ∧ i = .int .i64 k ∧ Below w.heap.size w wr

set_option maxHeartbeats 4000000 in
set_option maxRecDepth 100000 in
theorem codeJumps_walk (s : ByteArray) (w : World) (hs : s.size ≤ maxLen) (ht : Tabs w) :
    Calls Tryd.prog 5 #[.string s] w fun e w' => e = .returned (.bool true) ∧ Below w.heap.size w w' := by
  have HT := Lib.hid ht
  have HGD := Lib.hid (parse_good s)
  have HWH := Lib.hid (parse_whole s)
  go_enter Tryd.func5, Tryd.ntmps5
  go_wp2_with fail
  refine (parse_any s w hs ht).mono ?_
  generalize parseB s = q at HGD HWH
  obtain ⟨t, p, c⟩ := q
  rintro e w1 ⟨kv, rfl, hk, hb⟩
  have HK := Lib.hid (show KAt 25 w1 t.kids (fun b => w.heap.size ≤ b) kv from hk)
  have HB := Lib.hid hb
  have HT1 := Lib.hid (ht.below hb ht.size)
  have HO := Lib.hid HK.out.one
  clear hk hb ht
  have HG := Lib.hid (show t.size ≤ 4096 from HGD.out.2)
  have HW := Lib.hid (show t.whole from HWH.out.2)
  have hsz : t.size ≤ 4096 := HG.out
  have HN := Lib.hid (show Blk _ w1.heap.size (nodeCells t kv) 25 from Blk.new w1 _ _)
  clear HGD HWH
  unfold NodeV
  go_wp2_with ((with_reducible refine at_st 25 (.tmp 3) ?_); refine wpList_store_new rfl 25 (.tmp 3) (.tmp 14) rfl (nodeCells t kv) (old := zeroNodeCells) rfl rfl Tryd.sizeNode rfl (nodeCells_one _ _ HO.out) ?_)
  refine (wakes7_any _ HT1.out.alloc).mono ?_
  rintro e w2 ⟨rfl, hb2⟩
  have HN2 := Lib.hid (HN.out.kp (Kp.of_below (pb := w2.heap.size) hb2) (by have := hb2.size; simp at this; omega))
  have HK2 := Lib.hid ((HK.out.alloc (.cells (nodeCells t kv).toArray 25)).below hb2)
  have HB2 := Lib.hid ((HB.out.alloc HB.out.size _).trans (hb2.mono (by simp; have := HB.out.size; omega)))
  have HT2 := Lib.hid (HT.out.below HB2.out HT.out.size)
  clear hb2 HN HK
  have hts : t.size = 1 + sizes t.kids := by cases t; rw [size_mk]; rfl
  have hkl : t.kids.length ≤ 4096 := by have h1 := len_sizes t.kids; omega
  by_cases hc : c = 0
  · subst hc
    rcases HK2.out.form with ⟨rfl, hnil⟩ | ⟨g, cap, rfl, hg, hcap, hcm, hget⟩
    · have c4 : w2.cell? ⟨w1.heap.size, 4, none⟩ = some (.slice none 0 0) := HN2.out.cell 4
      clear hnil hkl hts
      go_wp2_with fail
      refine wp_loop_rounds 1 ?_
      rw [rounds_succ]
      go_wp2_with fail
      go_ret
      exact ⟨rfl, HB2.out⟩
    · have c4 : w2.cell? ⟨w1.heap.size, 4, none⟩ = some (.slice (some ⟨g, 0, none⟩) t.kids.length cap) := HN2.out.cell 4
      have HGT := Lib.hid hget
      have HCAP := Lib.hid hcap
      have HTS := Lib.hid hts
      clear hget hcap hts
      unfold maxLen at hcm
      go_wp2_with fail
      go_loopg [27] t.kids.length (fun gk i wr => LpRel w2 t.kids.length gk i wr)
      case atStart => exact ⟨0, by omega, by omega, rfl, Below.refl _ _⟩
      case round =>
        obtain ⟨k, hk, hgk, rfl, hbel⟩ := hrel
        have HBW := Lib.hid hbel
        have hzw := hbel.size
        clear hbel
        by_cases hlt : k < t.kids.length
        · obtain ⟨u, hr, hT⟩ := HGT.out k t.kids[k] (List.getElem?_eq_getElem hlt)
          have hne := List.getElem?_eq_getElem hlt
          have hks := sizes_mem hne
          generalize t.kids[k] = tk at hr hT hne hks
          have HR := Lib.hid (rangeAt_below hr HBW.out hg)
          have HTK := Lib.hid (hT.below HBW.out)
          have HTW := Lib.hid (show tk.whole from wholes_mem (whole_eq.1 HW.out).2 (List.mem_of_getElem? hne))
          have HTZ := Lib.hid (show tk.size ≤ 4096 from by have := HTS.out; omega)
          have hcap := HCAP.out
          have HBN := Lib.hid (HBW.out.alloc hzw (.cells (nodeCells tk u).toArray 25))
          clear hr hT hne hks
          obtain ⟨kk, kt, kn, kp, kks⟩ := tk
          by_cases h6 : kk = 6
          · subst h6
            have h6n : ((6 : Int) != 6) = false := rfl
            obtain ⟨m, hm, ⟨y0, hy0, ho0⟩, hj⟩ := fn_jumps2 (t := T.mk 6 kt kn kp kks) HTW.out rfl (by have := HTZ.out; omega)
            have hcn := fn_count (t := T.mk 6 kt kn kp kks) HTW.out rfl (by have := HTZ.out; omega)
            have hmb : m ≤ 8192 := by have := ccount_le (T.mk 6 kt kn kp kks); have := HTZ.out; omega
            have HJ := Lib.hid hj
            have HM := Lib.hid hm
            have HY := Lib.hid hy0
            have HYO := Lib.hid ho0
            clear hj hm hy0 ho0 hcn
            go_wp2_with (first
              | ((with_reducible refine at_ld 25 (.tmp 29) ?_); refine wpList_load_mid rfl 25 (.tmp 29) rfl g (k * 5) rfl [.int .i64 6, .string kt, .int .i64 kn, .int .i64 kp, u] _ HR.out Tryd.underlying25 rfl Tryd.sizeNode ?_)
              | ((with_reducible refine at_st 25 (.tmp 7) ?_); refine wpList_store_new rfl 25 (.tmp 7) (.tmp 30) rfl [.int .i64 6, .string kt, .int .i64 kn, .int .i64 kp, u] (old := zeroNodeCells) rfl rfl Tryd.sizeNode rfl (nodeCells_one (T.mk 6 kt kn kp kks) _ HTK.out.kat.one) ?_)
              | ((with_reducible refine at_ld 25 (.tmp 7) ?_); refine wpList_load_blk rfl 25 (.tmp 7) rfl wr.heap.size [.int .i64 6, .string kt, .int .i64 kn, .int .i64 kp, u] rfl (Blk.new wr _ _) Tryd.underlying25 rfl Tryd.sizeNode ?_))
            refine (lower_any (t := T.mk 6 kt kn kp kks) (HTK.out.alloc (.cells [.int .i64 6, .string kt, .int .i64 kn, .int .i64 kp, u].toArray 25)).kat HTW.out (by have := HTZ.out; omega)).mono ?_
            rintro e w3 ⟨pv, lv, rfl, hcd, hb3⟩
            have HB3 := Lib.hid (HBN.out.trans (hb3.mono (by simp; omega)))
            have hz3 := hb3.size
            rcases hcd.2.form with ⟨_, hnil⟩ | ⟨g3, cap3, rfl, hg3, hcap3, hcm3, hget3⟩
            · exfalso; have h := HM.out; rw [hnil] at h; simp at h
            have HG3 := Lib.hid hget3
            obtain ⟨u0, r0, _⟩ := hget3 m y0 HY.out
            have m0 : w3.cell? ⟨g3, m * 11, none⟩ = some (.int .i64 14) := by have h := r0 0 _ rfl; rw [HYO.out] at h; exact h
            rw [HM.out] at hcap3 ⊢
            have HLL := Lib.hid (show (lowerI (T.mk 6 kt kn kp kks)).list.length = m + 1 from HM.out)
            generalize (lowerI (T.mk 6 kt kn kp kks)).list = L at HJ HG3 HLL
            clear hcd hb3 hget3 r0 HM HY
            have hwm : IntKind.i64.wrap (((m + 1 : Nat) : Int) - 1) = (m : Int) := by rw [show ((m + 1 : Nat) : Int) - 1 = (m : Int) by omega]; exact IntWalk.i64_in _ (by omega)
            have hf2 := fldCod2
            unfold CodV
            unfold maxLen at hcm3
            go_wp2_with fail
            obtain ⟨go, hgo⟩ : ∃ go : Nat, gk = go + 0 := ⟨gk, rfl⟩
            go_loopg [52] (m + 1) (fun gj i wr => LpRel w3 (m + 1) gj i wr)
            case atStart => exact ⟨0, by omega, by omega, rfl, Below.refl _ _⟩
            case round =>
              rename World => wj
              obtain ⟨j, hj, hgj, rfl, hbj⟩ := hrel
              have HBJ := Lib.hid hbj
              have hzj := hbj.size
              clear hbj
              by_cases hjl : j < m + 1
              · obtain ⟨x, hx⟩ : ∃ x, L[j]? = some x := ⟨L[j]'(by have := HLL.out; omega), List.getElem?_eq_getElem _⟩
                obtain ⟨ux, rx, hax⟩ := HG3.out j x hx
                have HRX := Lib.hid (rangeAt_below rx HBJ.out hg3)
                have HOX := Lib.hid hax.one
                have hg3j : g3 < wj.heap.size := by omega
                rcases HJ.out j x hx with ⟨h1, h2, h3⟩ | ⟨h1, h2, h3, h4⟩ | ⟨h1, h2, h3⟩
                · obtain ⟨xop, xpl, xx, xy, xa, xb, xar, xto, xha⟩ := x
                  dsimp only at h1 h2 h3
                  subst h1
                  clear rx hax hx
                  go_wp2_with (first
                    | ((with_reducible refine at_ld 43 (.tmp 55) ?_); refine wpList_load_mid rfl 43 (.tmp 55) rfl g3 (j * 11) rfl [.int .i64 10, .int .i64 xpl, .string xx, .string xy, .string xa.name, .int .i64 xa.num, .string xb.name, .int .i64 xb.num, ux, .int .i64 xto, .bool xha] _ HRX.out Tryd.underlying43 rfl Tryd.sizeInstr ?_)
                    | ((with_reducible refine at_st 43 (.tmp 10) ?_); refine wpList_store_new rfl 43 (.tmp 10) (.tmp 56) rfl [.int .i64 10, .int .i64 xpl, .string xx, .string xy, .string xa.name, .int .i64 xa.num, .string xb.name, .int .i64 xb.num, ux, .int .i64 xto, .bool xha] (old := insCells ins0 (.slice none 0 0)) rfl rfl Tryd.sizeInstr rfl (insCells_one ⟨10, xpl, xx, xy, xa, xb, xar, xto, xha⟩ ux HOX.out) ?_))
                  go_roundg (gk - 1)
                  case measure => omega
                  case rel => exact ⟨j + 1, by omega, by omega, by go_num, HBJ.out.alloc hzj _⟩
                · obtain ⟨xop, xpl, xx, xy, xa, xb, xar, xto, xha⟩ := x
                  dsimp only at h1 h2 h3 h4
                  subst h1
                  have e1 : ((xto : Int) == (j : Int)) = false := beq_eq_false_iff_ne.2 (by omega)
                  have e2 : (xto == j) = false := beq_eq_false_iff_ne.2 h3
                  clear rx hax hx
                  by_cases hb : xto < j
                  · obtain ⟨y, hy, hyo⟩ := h4 hb
                    obtain ⟨uy, ry, _⟩ := HG3.out xto y hy
                    have hcy : wj.cell? ⟨g3, xto * 11, none⟩ = some (.int .i64 10) := by have h := rangeAt_below ry HBJ.out hg3 0 _ rfl; rw [hyo] at h; exact h
                    clear ry hy h4
                    go_wp2_with (first
                      | ((with_reducible refine at_ld 43 (.tmp 55) ?_); refine wpList_load_mid rfl 43 (.tmp 55) rfl g3 (j * 11) rfl [.int .i64 11, .int .i64 xpl, .string xx, .string xy, .string xa.name, .int .i64 xa.num, .string xb.name, .int .i64 xb.num, ux, .int .i64 xto, .bool xha] _ HRX.out Tryd.underlying43 rfl Tryd.sizeInstr ?_)
                      | ((with_reducible refine at_st 43 (.tmp 10) ?_); refine wpList_store_new rfl 43 (.tmp 10) (.tmp 56) rfl [.int .i64 11, .int .i64 xpl, .string xx, .string xy, .string xa.name, .int .i64 xa.num, .string xb.name, .int .i64 xb.num, ux, .int .i64 xto, .bool xha] (old := insCells ins0 (.slice none 0 0)) rfl rfl Tryd.sizeInstr rfl (insCells_one ⟨11, xpl, xx, xy, xa, xb, xar, xto, xha⟩ ux HOX.out) ?_))
                    go_roundg (gk - 1)
                    case measure => omega
                    case rel => exact ⟨j + 1, by omega, by omega, by go_num, HBJ.out.alloc hzj _⟩
                  · clear h4
                    go_wp2_with (first
                      | ((with_reducible refine at_ld 43 (.tmp 55) ?_); refine wpList_load_mid rfl 43 (.tmp 55) rfl g3 (j * 11) rfl [.int .i64 11, .int .i64 xpl, .string xx, .string xy, .string xa.name, .int .i64 xa.num, .string xb.name, .int .i64 xb.num, ux, .int .i64 xto, .bool xha] _ HRX.out Tryd.underlying43 rfl Tryd.sizeInstr ?_)
                      | ((with_reducible refine at_st 43 (.tmp 10) ?_); refine wpList_store_new rfl 43 (.tmp 10) (.tmp 56) rfl [.int .i64 11, .int .i64 xpl, .string xx, .string xy, .string xa.name, .int .i64 xa.num, .string xb.name, .int .i64 xb.num, ux, .int .i64 xto, .bool xha] (old := insCells ins0 (.slice none 0 0)) rfl rfl Tryd.sizeInstr rfl (insCells_one ⟨11, xpl, xx, xy, xa, xb, xar, xto, xha⟩ ux HOX.out) ?_))
                    go_roundg (gk - 1)
                    case measure => omega
                    case rel => exact ⟨j + 1, by omega, by omega, by go_num, HBJ.out.alloc hzj _⟩
                · obtain ⟨xop, xpl, xx, xy, xa, xb, xar, xto, xha⟩ := x
                  dsimp only at h1 h2 h3
                  subst h3
                  have b1 : (xop == 10) = false := by simp [h1]
                  have b2 : (xop == 11) = false := by simp [h2]
                  clear rx hax hx
                  go_wp2_with (first
                    | ((with_reducible refine at_ld 43 (.tmp 55) ?_); refine wpList_load_mid rfl 43 (.tmp 55) rfl g3 (j * 11) rfl [.int .i64 xop, .int .i64 xpl, .string xx, .string xy, .string xa.name, .int .i64 xa.num, .string xb.name, .int .i64 xb.num, ux, .int .i64 0, .bool xha] _ HRX.out Tryd.underlying43 rfl Tryd.sizeInstr ?_)
                    | ((with_reducible refine at_st 43 (.tmp 10) ?_); refine wpList_store_new rfl 43 (.tmp 10) (.tmp 56) rfl [.int .i64 xop, .int .i64 xpl, .string xx, .string xy, .string xa.name, .int .i64 xa.num, .string xb.name, .int .i64 xb.num, ux, .int .i64 0, .bool xha] (old := insCells ins0 (.slice none 0 0)) rfl rfl Tryd.sizeInstr rfl (insCells_one ⟨xop, xpl, xx, xy, xa, xb, xar, 0, xha⟩ ux HOX.out) ?_))
                  go_roundg (gk - 1)
                  case measure => omega
                  case rel => exact ⟨j + 1, by omega, by omega, by go_num, HBJ.out.alloc hzj _⟩
              · go_wp2
                go_roundg (go - 1)
                case measure => omega
                case rel => exact ⟨k + 1, by omega, by omega, by go_num, HB3.out.trans (HBJ.out.mono HB3.out.size)⟩
          · have h6n : (kk != 6) = true := by simp [h6]
            go_wp2_with (first
              | ((with_reducible refine at_ld 25 (.tmp 29) ?_); refine wpList_load_mid rfl 25 (.tmp 29) rfl g (k * 5) rfl [.int .i64 kk, .string kt, .int .i64 kn, .int .i64 kp, u] _ HR.out Tryd.underlying25 rfl Tryd.sizeNode ?_)
              | ((with_reducible refine at_st 25 (.tmp 7) ?_); refine wpList_store_new rfl 25 (.tmp 7) (.tmp 30) rfl [.int .i64 kk, .string kt, .int .i64 kn, .int .i64 kp, u] (old := zeroNodeCells) rfl rfl Tryd.sizeNode rfl (nodeCells_one (T.mk kk kt kn kp kks) _ HTK.out.kat.one) ?_))
            go_roundg (gk - 1)
            case measure => omega
            case rel => exact ⟨k + 1, by omega, by omega, by go_num, HBN.out⟩
        · go_wp2
          go_ret
          exact ⟨rfl, HB2.out.trans (HBW.out.mono HB2.out.size)⟩
  · go_wp2_with fail
    refine (wakes7_any _ HT2.out).mono ?_
    rintro e w3 ⟨rfl, hb3⟩
    have HB3 := Lib.hid (HB2.out.trans (hb3.mono HB2.out.size))
    clear hb3
    go_wp2_with fail
    go_ret
    exact ⟨rfl, HB3.out⟩

theorem codeJumps_reads (os : Os) {H : Type} (enc : TypeId × Value → H) : ∃ places, DataW.whole enc Tryd.prog ((laidWorld os).forCall (fun _ _ => 0) ⟨#[], #[.string ⟨#[]⟩], []⟩).memory Tryd.f5.params.toList Rows.codeJumpsSpec.vars false #[Value.string ⟨#[]⟩].toList 8 = some ([.lit (.string [])], [], places) :=
  ⟨[], by kernel_rfl⟩

set_option maxRecDepth 100000 in
theorem codeJumps_lifted (os : Os) (started : os.Started) (H : Type) (enc : TypeId × Value → H) (F : Stop.Interp) :
    ReturnsInHanded {} Tryd.checked os 5 .any ((OpenSpec.ofChange Rows.codeJumpsSpec).preRow enc Tryd.prog Tryd.f5 Rows.codeJumpsRow.domain false Rows.codeJumpsRow.laid) (((OpenSpec.ofChange Rows.codeJumpsSpec).at F).post enc Tryd.prog Tryd.f5 false true false false) := by
  obtain ⟨places, hx⟩ := codeJumps_reads os enc
  refine returnsInHanded_of_row (C := Tryd.checked) (s := OpenSpec.ofChange Rows.codeJumpsSpec) own started (by kernel_rfl) Tryd.func5
    (witness_row_at (enc := enc) (C := Tryd.checked) false (laidWorld os) #[.string ⟨#[]⟩] rfl (by kernel_rfl) (by kernel_rfl) (by kernel_rfl)
      (OpenSpec.preRow_of_cond 8 hx (by kernel_rfl) (fun k hk => by cases hk) (by kernel_rfl) (laid_met_text os))) ?_
  intro W base args ds gs before hval hW _ _ _ hL _ _
  exact text_contract Tryd.params5 (by kernel_rfl) rfl (fun _ => rfl) codeJumps_walk W base args ds gs before hval hW hL

theorem codeJumps_said : Rows.CodeJumpsSaid :=
  OpenClaim.holds_of_cond 5 Tryd.f5 rfl rfl rfl rfl rfl rfl rfl ⟨rfl, rfl, rfl, rfl, rfl⟩ rfl rfl rfl rfl rfl (by kernel_rfl) Tryd.func5 (by kernel_rfl)
    (of_decide_eq_true (by kernel_rfl)) (by unfold Func.isWrapper; first | (rw [if_pos (by decide +kernel)]; kernel_rfl) | (rw [if_neg (by decide +kernel)]; exact ⟨rfl, rfl⟩))
    (fun os started H enc _ F => by rw [OpenClaim.pre_eq_preRow]; exact codeJumps_lifted os started H enc F)

theorem codeJumps_plain (f : FuncId) (fn : Func) (hf : Tryd.pinned.checked.prog.funcNamed "lychgate/lychgatelaw07.CodeJumps" = some f) (hfn : Tryd.pinned.checked.prog.funcs[f]? = some fn) :
    true = Tryd.pinned.checked.prog.looks [] ∧ ∀ (j : Nat) t, fn.params[j]? = some t → Tryd.pinned.checked.prog.wantsStandIn t = false := by
  obtain rfl : f = 5 := Option.some.inj ((show Tryd.prog.funcNamed "lychgate/lychgatelaw07.CodeJumps" = some 5 by kernel_rfl).symm.trans hf) |>.symm
  obtain rfl : fn = Tryd.f5 := (Option.some.inj (Tryd.func5.symm.trans hfn)).symm
  refine ⟨by kernel_rfl, fun j t ht => ?_⟩
  rw [Tryd.params5] at ht
  obtain rfl : t = 9 := by simpa using Array.mem_of_getElem? ht
  exact (show Tryd.prog.wantsStandIn 9 = false by kernel_rfl)

theorem codeJumps_card : Rows.CodeJumpsCardSaid :=
  Claim7.holds_tied_plain_at .later [] _ _ _ _ codeJumps_said (fun _ h => by cases h) (by kernel_rfl) (fun _ h => by cases h) codeJumps_row_tie rfl ⟨rfl, rfl⟩ (by kernel_rfl) rfl codeJumps_plain (by kernel_rfl)

end Go.Proofs.YtnmpfpnldcgbaaaDoor
