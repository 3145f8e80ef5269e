/- Proved here: for every text that lychgatelaw11.ShapeOrder is called with, in every memory in which lex's tables stand as the program's text lays them, the call returns true and the text reads as before. Conditions: the package-level tables lex.keys, lex.blanks and lex.pairs hold what their initialisers lay (the card ties them to the program's text). -/
import Derived.Test.YtdkdidgeaalcgaaDoorWakesS
import Derived.Test.YtdkdidgeaalcgaaDoorShpS
import Derived.Test.YtdkdidgeaalcgaaDoorLawHCode
namespace Go.Proofs.YtdkdidgeaalcgaaDoor
open Go.ChangeShapes Go.WideShapes Go.ChangeAt Go.ChangeMaps Go.RowKit

set_option maxRecDepth 100000 in
set_option maxHeartbeats 4000000 in
theorem shapeOrder_walk (s : ByteArray) (w : World) (hs : s.size ≤ maxLen) (ht : Tabs w) :
    Calls Tryd.prog 7 #[.string s] w fun e w' => e = .returned (.bool true) ∧ Below w.heap.size w w' := by
  have HT := Lib.hid ht
  cases hq : parseB s with
  | mk t1 q1 =>
  obtain ⟨p1, c1⟩ := q1
  have HQ1 := Lib.hid hq
  have HD1 := Lib.hid (show Declared t1 ∧ t1.size ≤ 4096 from by have h1 := parse_declared s; have h2 := (parse_good s).2; rw [hq] at h1 h2; exact ⟨h1, h2⟩)
  clear hq ht
  go_enter Tryd.func7, Tryd.ntmps7
  go_wp2_with fail
  refine (parse_any s w hs HT.out).mono ?_
  rw [HQ1.out]
  rintro e w1 ⟨k1, rfl, hk, hb⟩
  obtain ⟨W1, hW1⟩ : ∃ W, w1.alloc (.cells (nodeCells t1 k1).toArray 39) = W := ⟨_, rfl⟩
  have hb1 : Below w1.heap.size w1 W1 := hW1 ▸ (Below.refl _ _).alloc (Nat.le_refl _) _
  have HB1 := Lib.hid (hb.trans (hb1.mono hb.size))
  have HN1 := Lib.hid (show Blk W1 w1.heap.size (nodeCells t1 k1) 39 from hW1 ▸ Blk.new w1 _ _)
  have HK1 := Lib.hid (show KAt 39 W1 t1.kids (fun b => w.heap.size ≤ b) k1 from (show KAt 39 w1 t1.kids _ k1 from hk).below hb1)
  have HO1 := Lib.hid HK1.out.one
  have HTY := Lib.hid (types_any HK1.out HD1.out.1 HD1.out.2)
  have hn1 := HN1.out
  clear hk hb hb1
  unfold NodeV at HTY ⊢
  go_wp2_with (first
    | ((with_reducible refine at_st 39 (.tmp 3) ?_); refine wpList_store_new rfl 39 (.tmp 3) (.tmp 18) rfl (nodeCells t1 k1) (old := zeroNodeCells) rfl rfl Tryd.sizeNode rfl (nodeCells_one _ _ HO1.out) ?_; rw [hW1])
    | ((with_reducible refine at_ld 39 (.tmp 3) ?_); refine wpList_load_blk rfl 39 (.tmp 3) rfl w1.heap.size (nodeCells t1 k1) rfl hn1 Tryd.underlying39 rfl Tryd.sizeNode ?_))
  refine HTY.out.mono ?_
  clear HTY hn1 hW1
  intro e w2 hp
  unfold TypesPost at hp
  have HCD := Lib.hid (types_code t1.kids [])
  have fin : ∀ (w2 : World), Below w.heap.size w w2 → Hid (Calls Tryd.prog 10 #[] w2 fun e w' => e = .returned (.bool true) ∧ Below w2.heap.size w2 w') := fun w2 h => Lib.hid (wakes11_any w2 (HT.out.below h HT.out.size))
  cases hr1 : typesF [] t1.kids with
  | error pc =>
    obtain ⟨q, c⟩ := pc
    rw [hr1] at hp
    obtain ⟨rfl, hb⟩ := hp
    have hcc := HCD.out q c hr1
    have hne : (c != 0) = true := by rw [bne_iff_ne]; omega
    have HB2 := Lib.hid (HB1.out.trans (hb.mono HB1.out.size))
    have HWK := fin w2 HB2.out
    clear hb hr1 hcc fin
    go_wp2_with fail
    refine HWK.out.mono ?_
    rintro e w3 ⟨rfl, hb⟩
    have HB3 := Lib.hid (HB2.out.trans (hb.mono HB2.out.size))
    have HWK3 := Lib.hid (wakes11_any w3 (HT.out.below HB3.out HT.out.size))
    clear hb HWK
    by_cases hc1 : c1 = 0
    · obtain rfl := hc1
      go_wp2_with fail
      refine HWK3.out.mono ?_
      rintro e w4 ⟨rfl, hb⟩
      go_wp2_with fail
      go_ret
      exact ⟨rfl, HB3.out.trans (hb.mono HB3.out.size)⟩
    · have hne1 : (c1 != 0) = true := by simpa using hc1
      go_wp2_with fail
      refine HWK3.out.mono ?_
      rintro e w4 ⟨rfl, hb⟩
      go_wp2_with fail
      go_ret
      exact ⟨rfl, HB3.out.trans (hb.mono HB3.out.size)⟩
  | ok tys =>
    rw [hr1] at hp
    obtain ⟨v, rfl, hv, hb⟩ := hp
    have HB2 := Lib.hid (HB1.out.trans (hb.mono HB1.out.size))
    have HV2 := Lib.hid hv
    have HN2 := Lib.hid (HN1.out.stays hb)
    have HK2 := Lib.hid (HK1.out.below hb)
    have HWK := fin w2 HB2.out
    have HRR := Lib.hid hr1
    obtain ⟨va, vc, rfl⟩ := hv.slice
    clear hb hv fin HK1 HN1 hr1
    go_wp2_with fail
    refine HWK.out.mono ?_
    rintro e w3 ⟨rfl, hb⟩
    have HB3 := Lib.hid (HB2.out.trans (hb.mono HB2.out.size))
    have HV3 := Lib.hid (HV2.out.below hb)
    have HN3 := Lib.hid (HN2.out.stays hb)
    have HK3 := Lib.hid (HK2.out.below hb)
    have HWK3 := Lib.hid (wakes11_any w3 (HT.out.below HB3.out HT.out.size))
    clear hb HWK HV2 HN2 HK2
    by_cases hc1 : c1 = 0
    · obtain rfl := hc1
      obtain ⟨ka, kc, rfl⟩ := HK3.out.len
      have n4 : w3.cell? ⟨w1.heap.size, 4, none⟩ = some (.slice ka t1.kids.length kc) := HN3.out.cell 4
      obtain ⟨zs, hzs, hall⟩ := typesF_order t1.kids HRR.out
      obtain rfl : tys = zs := by simpa using hzs
      have HAL := Lib.hid hall
      have HAN := Lib.hid hall.len
      clear hzs hall
      have hkl : t1.kids.length ≤ 4096 := by have h1 := len_sizes t1.kids; have h2 : t1.size = 1 + sizes t1.kids := (by cases t1; rw [size_mk]; rfl); have := HD1.out.2; omega
      have HSZ : Hid (sizes t1.kids ≤ 4096) := by
        have h2 : t1.size = 1 + sizes t1.kids := by cases t1; rw [size_mk]; rfl
        exact Lib.hid (by have := HD1.out.2; omega)
      go_wp2_with fail
      clear n4
      go_loopw [9, 41] (fun a i wr => ∃ k : Nat, k ≤ t1.kids.length ∧ i = .int .i64 k ∧ a = .int .i64 (((t1.kids.take k).filter (fun t => t.kind == 1)).length : Nat) ∧ Below w3.heap.size w3 wr) (fun _ i _ => t1.kids.length - (intOf i).toNat)
      case atStart => exact ⟨0, by omega, rfl, by simp, Below.refl _ _⟩
      case round =>
        obtain ⟨k, hkk, rfl, rfl, hbw⟩ := hrel
        obtain ⟨wo, rfl⟩ : ∃ W, W = wr := ⟨_, rfl⟩
        by_cases hlt : k < t1.kids.length
        · obtain ⟨tk, htk⟩ : ∃ tk, t1.kids[k]? = some tk := ⟨_, List.getElem?_eq_getElem hlt⟩
          obtain ⟨g, cap, hsl, hgl, hcap, hcm, hget⟩ := (HK3.out.form).resolve_left fun h => by rw [h.2] at hlt; simp at hlt
          obtain ⟨rfl, rfl⟩ : ka = some ⟨g, 0, none⟩ ∧ kc = cap := by simpa using hsl
          obtain ⟨u, hr, hu⟩ := hget k tk htk
          have HR := Lib.hid (rangeAt_below hr hbw hgl)
          obtain ⟨W4, hW4⟩ : ∃ W, wo.alloc (.cells (nodeCells tk u).toArray 39) = W := ⟨_, rfl⟩
          have hb4 : Below wo.heap.size wo W4 := hW4 ▸ (Below.refl _ _).alloc (Nat.le_refl _) _
          have HB4 := Lib.hid (hbw.trans (hb4.mono hbw.size))
          have HN4 := Lib.hid (show Blk W4 wo.heap.size (nodeCells tk u) 39 from hW4 ▸ Blk.new wo _ _)
          have HU := Lib.hid (hu.below HB4.out).kat
          have hu1 := hu.one'
          have c0 : W4.cell? ⟨wo.heap.size, 0, none⟩ = some (.int .i64 tk.kind) := HN4.out.cell 0
          have HNX := Lib.hid (filter_next (P := fun t => t.kind == 1) htk)
          have hkl2 : tk.kids.length ≤ 4096 := by have := kids_le (List.mem_of_getElem? htk); have := HSZ.out; omega
          clear hget hr hu hsl hb4
          cases h1 : tk.kind == 1
          · have h1n : (tk.kind != 1) = true := by simp only [bne, h1]; rfl
            have HNN := Lib.hid (HNX.out.trans (by rw [h1]; try rfl))
            go_wp2_with (first
              | ((with_reducible refine at_ld 39 (.tmp 43) ?_); refine wpList_load_mid rfl 39 (.tmp 43) rfl g (k * 5) rfl (nodeCells tk u) _ HR.out Tryd.underlying39 rfl Tryd.sizeNode ?_)
              | ((with_reducible refine at_st 39 (.tmp 11) ?_); refine wpList_store_new rfl 39 (.tmp 11) (.tmp 44) rfl (nodeCells tk u) (old := zeroNodeCells) rfl rfl Tryd.sizeNode rfl (nodeCells_one _ _ hu1) ?_; rw [hW4]))
            go_roundw
            case rel => exact ⟨k + 1, by omega, by go_num, by rw [HNN.out]; rfl, HB4.out⟩
            case measure => simp [intOf]; omega
          · have h1n : (tk.kind != 1) = false := by simp only [bne, h1]; rfl
            have HNN := Lib.hid (HNX.out.trans (by rw [h1]; try rfl))
            obtain ⟨x, hx, hmk⟩ := HAL.out.get _ tk (filter_at htk h1)
            generalize ((t1.kids.take k).filter (fun t => t.kind == 1)).length = at0 at *
            have hat : at0 < tys.length := (List.getElem?_eq_some_iff.1 hx).1
            obtain ⟨tg, tcap, htsl, htg, htcap, htcm, htget⟩ := (HV3.out.form).resolve_left fun h => by rw [h.2] at hat; simp at hat
            obtain ⟨rfl, rfl⟩ : va = some ⟨tg, 0, none⟩ ∧ vc = tcap := by simpa using htsl
            obtain ⟨pv, lv, hrt, hty⟩ := htget at0 x hx
            have HRT := Lib.hid (rangeAt_below hrt HB4.out htg.2)
            have HTYF := Lib.hid (hty.1.below HB4.out)
            obtain ⟨pa, pc, rfl⟩ := RAt.slice hty.1
            obtain ⟨ua, uc, rfl⟩ := HU.out.len
            have c4 : W4.cell? ⟨wo.heap.size, 4, none⟩ = some (.slice ua tk.kids.length uc) := HN4.out.cell 4
            have HMK := Lib.hid hmk
            clear htget hrt hty htsl hx hmk
            unfold maxLen at htcm
            go_wp2_with (first
              | ((with_reducible refine at_ld 39 (.tmp 43) ?_); refine wpList_load_mid rfl 39 (.tmp 43) rfl g (k * 5) rfl (nodeCells tk (.slice ua tk.kids.length uc)) _ HR.out Tryd.underlying39 rfl Tryd.sizeNode ?_)
              | ((with_reducible refine at_st 39 (.tmp 11) ?_); refine wpList_store_new rfl 39 (.tmp 11) (.tmp 44) rfl (nodeCells tk (.slice ua tk.kids.length uc)) (old := zeroNodeCells) rfl rfl Tryd.sizeNode rfl (nodeCells_one _ _ hu1) ?_; rw [hW4]))
            clear hW4 c0 c4
            go_loopw [12, 51] (fun f i wr => ∃ j : Nat, j ≤ tk.kids.length ∧ i = .int .i64 j ∧ f = .int .i64 (((tk.kids.take j).filter (fun t => t.kind == 3)).length : Nat) ∧ Below W4.heap.size W4 wr) (fun _ i _ => tk.kids.length - (intOf i).toNat)
            case atStart => exact ⟨0, by omega, rfl, by simp, Below.refl _ _⟩
            case round =>
              obtain ⟨j, hj, rfl, rfl, hbi⟩ := hrel
              by_cases hlj : j < tk.kids.length
              · obtain ⟨xk, hxk⟩ : ∃ xk, tk.kids[j]? = some xk := ⟨_, List.getElem?_eq_getElem hlj⟩
                obtain ⟨g2, cap2, hsl2, hgl2, hcap2, hcm2, hget2⟩ := (HU.out.form).resolve_left fun h => by rw [h.2] at hlj; simp at hlj
                obtain ⟨rfl, rfl⟩ : ua = some ⟨g2, 0, none⟩ ∧ uc = cap2 := by simpa using hsl2
                obtain ⟨u2, hr2, hu2⟩ := hget2 j xk hxk
                have HR2 := Lib.hid (rangeAt_below hr2 hbi hgl2)
                obtain ⟨W5, hW5⟩ : ∃ W, wr.alloc (.cells (nodeCells xk u2).toArray 39) = W := ⟨_, rfl⟩
                have hb5 : Below wr.heap.size wr W5 := hW5 ▸ (Below.refl _ _).alloc (Nat.le_refl _) _
                have HB5 := Lib.hid (hbi.trans (hb5.mono hbi.size))
                have HN5 := Lib.hid (show Blk W5 wr.heap.size (nodeCells xk u2) 39 from hW5 ▸ Blk.new wr _ _)
                have hu3 := hu2.one'
                obtain ⟨u2a, u2c, rfl⟩ := (hu2.kat).len
                have d0 : W5.cell? ⟨wr.heap.size, 0, none⟩ = some (.int .i64 xk.kind) := HN5.out.cell 0
                have HNX2 := Lib.hid (filter_next (P := fun t => t.kind == 3) hxk)
                clear hget2 hr2 hu2 hsl2 hb5 hbi
                cases h3 : xk.kind == 3
                · have h3n : (xk.kind != 3) = true := by simp only [bne, h3]; rfl
                  have HNN2 := Lib.hid (HNX2.out.trans (by rw [h3]; try rfl))
                  go_wp2_with (first
                    | ((with_reducible refine at_ld 39 (.tmp 53) ?_); refine wpList_load_mid rfl 39 (.tmp 53) rfl g2 (j * 5) rfl (nodeCells xk (.slice u2a xk.kids.length u2c)) _ HR2.out Tryd.underlying39 rfl Tryd.sizeNode ?_)
                    | ((with_reducible refine at_st 39 (.tmp 14) ?_); refine wpList_store_new rfl 39 (.tmp 14) (.tmp 54) rfl (nodeCells xk (.slice u2a xk.kids.length u2c)) (old := zeroNodeCells) rfl rfl Tryd.sizeNode rfl (nodeCells_one _ _ hu3) ?_; rw [hW5]))
                  go_roundw
                  case rel => exact ⟨j + 1, by omega, by go_num, by rw [HNN2.out]; rfl, HB5.out⟩
                  case measure => simp [intOf]; omega
                · have h3n : (xk.kind != 3) = false := by simp only [bne, h3]; rfl
                  have HNN2 := Lib.hid (HNX2.out.trans (by rw [h3]; try rfl))
                  obtain ⟨z, hz, hzz⟩ := HMK.out.2.2 _ xk (filter_at hxk h3)
                  have hfl : ((tk.kids.take j).filter (fun t => t.kind == 3)).length ≤ 4096 := Nat.le_trans (List.length_filter_le _ _) (by simp; omega)
                  generalize ((tk.kids.take j).filter (fun t => t.kind == 3)).length = fj at *
                  have hfj : fj < x.fields.length := (List.getElem?_eq_some_iff.1 hz).1
                  obtain ⟨fg, fcap, hfsl, hfg, hfcap, hfcm, hfget⟩ := (RAt.form fld_len HTYF.out).resolve_left fun h => by rw [h.2] at hfj; simp at hfj
                  obtain ⟨rfl, rfl⟩ : pa = some ⟨fg, 0, none⟩ ∧ pc = fcap := by simpa using hfsl
                  have hfr := rangeAt_below (hfget fj _ hz) HB5.out hfg.2
                  have hrt := rangeAt_below HRT.out HB5.out (Nat.lt_of_lt_of_le htg.2 HB4.out.size)
                  have t3 : W5.cell? ⟨tg, at0 * 5 + 3, none⟩ = some (.slice (some ⟨fg, 0, none⟩) x.fields.length pc) := hrt 3 _ rfl
                  have f0 : W5.cell? ⟨fg, fj * 2, none⟩ = some (.string xk.text) := hfr 0 _ rfl
                  have f1 : W5.cell? ⟨fg, fj * 2 + 1, none⟩ = some (.int .i64 z) := hfr 1 _ rfl
                  have d1 : W5.cell? ⟨wr.heap.size, 1, none⟩ = some (.string xk.text) := HN5.out.cell 1
                  have d4 : W5.cell? ⟨wr.heap.size, 4, none⟩ = some (.slice u2a xk.kids.length u2c) := HN5.out.cell 4
                  have hlen : decide (0 < xk.kids.length) = decide (0 ≤ z) := by rw [hzz]; cases xk.kids <;> simp
                  have a1 : decide (tys.length ≤ at0) = false := by simpa using hat
                  have a2 : (at0 : Int) < (tys.length : Int) := by omega
                  have a3 : decide (x.fields.length ≤ fj) = false := by simpa using hfj
                  have a4 : (fj : Int) < (x.fields.length : Int) := by omega
                  clear hfget hfr hrt hfsl hz hzz
                  unfold maxLen at hfcm
                  go_wp2_with (first
                    | ((with_reducible refine at_ld 39 (.tmp 53) ?_); refine wpList_load_mid rfl 39 (.tmp 53) rfl g2 (j * 5) rfl (nodeCells xk (.slice u2a xk.kids.length u2c)) _ HR2.out Tryd.underlying39 rfl Tryd.sizeNode ?_)
                    | ((with_reducible refine at_st 39 (.tmp 14) ?_); refine wpList_store_new rfl 39 (.tmp 14) (.tmp 54) rfl (nodeCells xk (.slice u2a xk.kids.length u2c)) (old := zeroNodeCells) rfl rfl Tryd.sizeNode rfl (nodeCells_one _ _ hu3) ?_; rw [hW5]))
                  clear hW5
                  generalize x.fields.length = nf at *
                  generalize xk.kids.length = nx at *
                  generalize xk.text = tx at *
                  go_quiet (fail)
                  go_wp2_with fail
                  go_roundw
                  case rel => exact ⟨j + 1, by omega, by go_num, by rw [HNN2.out]; go_num, below_nqS HB5.out _⟩
                  case measure => simp [intOf]; omega
              · obtain rfl : j = tk.kids.length := by omega
                rw [List.take_of_length_le (Nat.le_refl _), ← HMK.out.2.1]
                have HB5 := Lib.hid (HB4.out.trans (hbi.mono HB4.out.size))
                have hrt := rangeAt_below HRT.out hbi (Nat.lt_of_lt_of_le htg.2 HB4.out.size)
                have t0 : wr.cell? ⟨tg, at0 * 5, none⟩ = some (.string tk.text) := HMK.out.1 ▸ hrt 0 _ rfl
                have t3 : wr.cell? ⟨tg, at0 * 5 + 3, none⟩ = some (.slice pa x.fields.length pc) := hrt 3 _ rfl
                have d1 : wr.cell? ⟨wo.heap.size, 1, none⟩ = some (.string tk.text) := (HN4.out.stays hbi).cell 1
                have a1 : decide (tys.length ≤ at0) = false := by simpa using hat
                have a2 : (at0 : Int) < (tys.length : Int) := by omega
                have hal : at0 ≤ 4096 := by have h1 := HAN.out; have h2 := List.length_filter_le (fun t : T => t.kind == 1) t1.kids; omega
                clear hrt hbi
                generalize x.fields.length = nf at *
                generalize tk.text = tx at *
                go_wp2_with fail
                go_quiet (fail)
                go_wp2_with fail
                go_roundw
                case rel => exact ⟨k + 1, by omega, by go_num, by rw [HNN.out]; go_num, below_nqS HB5.out _⟩
                case measure => simp [intOf]; omega
        · obtain rfl : k = t1.kids.length := by omega
          rw [List.take_of_length_le (Nat.le_refl _), HAN.out]
          have HB6 := Lib.hid (HB3.out.trans (hbw.mono HB3.out.size))
          go_wp2_with fail
          go_ret
          exact ⟨ret_b (by simp), HB6.out⟩
    · have hne1 : (c1 != 0) = true := by simpa using hc1
      go_wp2_with fail
      refine HWK3.out.mono ?_
      rintro e w4 ⟨rfl, hb⟩
      go_wp2_with fail
      go_ret
      exact ⟨rfl, HB3.out.trans (hb.mono HB3.out.size)⟩

theorem shapeOrder_reads (os : Os) {H : Type} (enc : TypeId × Value → H) : ∃ places, DataW.whole enc Tryd.prog ((laidWorld os).forCall (fun _ _ => 0) ⟨#[], #[.string ⟨#[]⟩], []⟩).memory Tryd.f7.params.toList Rows.shapeOrderSpec.vars false #[Value.string ⟨#[]⟩].toList 8 = some ([.lit (.string [])], [], places) :=
  ⟨[], by kernel_rfl⟩

set_option maxRecDepth 100000 in
theorem shapeOrder_lifted (os : Os) (started : os.Started) (H : Type) (enc : TypeId × Value → H) (F : Stop.Interp) :
    ReturnsInHanded {} Tryd.checked os 7 .any ((OpenSpec.ofChange Rows.shapeOrderSpec).preRow enc Tryd.prog Tryd.f7 Rows.shapeOrderRow.domain false Rows.shapeOrderRow.laid) (((OpenSpec.ofChange Rows.shapeOrderSpec).at F).post enc Tryd.prog Tryd.f7 false true false false) := by
  obtain ⟨places, hx⟩ := shapeOrder_reads os enc
  refine returnsInHanded_of_row (C := Tryd.checked) (s := OpenSpec.ofChange Rows.shapeOrderSpec) own started (by kernel_rfl) Tryd.func7
    (witness_row_at (enc := enc) (C := Tryd.checked) false (laidWorld os) #[.string ⟨#[]⟩] rfl (by kernel_rfl) (by kernel_rfl) (by kernel_rfl)
      (OpenSpec.preRow_of_cond 8 hx (by kernel_rfl) (fun k hk => by cases hk) (by kernel_rfl) (laid_met_text os))) ?_
  intro W base args ds gs before hval hW _ _ _ hL _ _
  exact text_contract Tryd.params7 (by kernel_rfl) rfl (fun _ => rfl) shapeOrder_walk W base args ds gs before hval hW hL

theorem shapeOrder_said : Rows.ShapeOrderSaid :=
  OpenClaim.holds_of_cond 7 Tryd.f7 rfl rfl rfl rfl rfl rfl rfl ⟨rfl, rfl, rfl, rfl, rfl⟩ rfl rfl rfl rfl rfl (by kernel_rfl) Tryd.func7 (by kernel_rfl)
    (of_decide_eq_true (by kernel_rfl)) (by unfold Func.isWrapper; first | (rw [if_pos (by decide +kernel)]; kernel_rfl) | (rw [if_neg (by decide +kernel)]; exact ⟨rfl, rfl⟩))
    (fun os started H enc _ F => by rw [OpenClaim.pre_eq_preRow]; exact shapeOrder_lifted os started H enc F)

theorem shapeOrder_plain (f : FuncId) (fn : Func) (hf : Tryd.pinned.checked.prog.funcNamed "lychgate/lychgatelaw11.ShapeOrder" = some f) (hfn : Tryd.pinned.checked.prog.funcs[f]? = some fn) :
    true = Tryd.pinned.checked.prog.looks [] ∧ ∀ (j : Nat) t, fn.params[j]? = some t → Tryd.pinned.checked.prog.wantsStandIn t = false := by
  obtain rfl : f = 7 := Option.some.inj ((show Tryd.prog.funcNamed "lychgate/lychgatelaw11.ShapeOrder" = some 7 by kernel_rfl).symm.trans hf) |>.symm
  obtain rfl : fn = Tryd.f7 := (Option.some.inj (Tryd.func7.symm.trans hfn)).symm
  refine ⟨by kernel_rfl, fun j t ht => ?_⟩
  rw [Tryd.params7] at ht
  obtain rfl : t = 9 := by simpa using Array.mem_of_getElem? ht
  exact (show Tryd.prog.wantsStandIn 9 = false by kernel_rfl)

theorem shapeOrder_card : Rows.ShapeOrderCardSaid :=
  Claim7.holds_tied_plain_at .later [] _ _ _ _ shapeOrder_said (fun _ h => by cases h) (by kernel_rfl) (fun _ h => by cases h) shapeOrder_row_tie rfl ⟨rfl, rfl⟩ (by kernel_rfl) rfl shapeOrder_plain (by kernel_rfl)

end Go.Proofs.YtdkdidgeaalcgaaDoor
