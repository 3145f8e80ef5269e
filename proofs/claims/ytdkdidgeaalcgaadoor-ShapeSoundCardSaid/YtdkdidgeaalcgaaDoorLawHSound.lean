/- Proved here: for every text that lychgatelaw11.ShapeSound is called with, in every memory in which lex's tables stand as the program's text lays them, the call returns true and the text reads as before. Conditions: the package-level tables lex.keys, lex.blanks and lex.pairs hold what their initialisers lay (the card ties them to the program's text). -/
import Derived.Test.YtdkdidgeaalcgaaDoorWakesS
import Derived.Test.YtdkdidgeaalcgaaDoorShpU
import Derived.Test.YtdkdidgeaalcgaaDoorLawHCode
namespace Go.Proofs.YtdkdidgeaalcgaaDoor
open Go.ChangeShapes Go.WideShapes Go.ChangeAt Go.ChangeMaps Go.RowKit

theorem Tryd.sizeLeq3 : (Tryd.prog.info? 30).map (·.size) = some 3 := by kernel_rfl
theorem fld_one (f : ByteArray × Int) : ∀ u ∈ fldCells f, u.oneCell' = true := by
  intro u hu
  simp only [fldCells, List.mem_cons, List.not_mem_nil, or_false] at hu
  rcases hu with rfl | rfl <;> rfl
set_option maxRecDepth 100000 in
set_option maxHeartbeats 4000000 in
theorem shapeSound_walk (s : ByteArray) (w : World) (hs : s.size ≤ maxLen) (ht : Tabs w) :
    Calls Tryd.prog 5 #[.string s] w fun e w' => e = .returned (.bool true) ∧ Below w.heap.size w w' := by
  have HT := Lib.hid ht
  cases hq : parseB s with
  | mk t1 q1 =>
  obtain ⟨p1, c1⟩ := q1
  have HQ1 := Lib.hid hq
  have HD1 := Lib.hid (show Declared t1 ∧ t1.size ≤ 4096 from by have h1 := parse_declared s; have h2 := (parse_good s).2; rw [hq] at h1 h2; exact ⟨h1, h2⟩)
  clear hq ht
  go_enter Tryd.func5, Tryd.ntmps5
  go_wp2_with fail
  refine (parse_any s w hs HT.out).mono ?_
  rw [HQ1.out]
  rintro e w1 ⟨k1, rfl, hk, hb⟩
  obtain ⟨W1, hW1⟩ : ∃ W, w1.alloc (.cells (nodeCells t1 k1).toArray 39) = W := ⟨_, rfl⟩
  have hb1 : Below w1.heap.size w1 W1 := hW1 ▸ (Below.refl _ _).alloc (Nat.le_refl _) _
  have HB1 := Lib.hid (hb.trans (hb1.mono hb.size))
  have HN1 := Lib.hid (show Blk W1 w1.heap.size (nodeCells t1 k1) 39 from hW1 ▸ Blk.new w1 _ _)
  have HK1 := Lib.hid (show KAt 39 W1 t1.kids (fun b => w.heap.size ≤ b) k1 from (show KAt 39 w1 t1.kids _ k1 from hk).below hb1)
  have HO1 := Lib.hid HK1.out.one
  have HTY := Lib.hid (types_any HK1.out HD1.out.1 HD1.out.2)
  have hn1 := HN1.out
  clear hk hb hb1
  unfold NodeV at HTY ⊢
  go_wp2_with (first
    | ((with_reducible refine at_st 39 (.tmp 3) ?_); refine wpList_store_new rfl 39 (.tmp 3) (.tmp 18) rfl (nodeCells t1 k1) (old := zeroNodeCells) rfl rfl Tryd.sizeNode rfl (nodeCells_one _ _ HO1.out) ?_; rw [hW1])
    | ((with_reducible refine at_ld 39 (.tmp 3) ?_); refine wpList_load_blk rfl 39 (.tmp 3) rfl w1.heap.size (nodeCells t1 k1) rfl hn1 Tryd.underlying39 rfl Tryd.sizeNode ?_))
  refine HTY.out.mono ?_
  clear HTY hn1 hW1
  intro e w2 hp
  unfold TypesPost at hp
  have HCD := Lib.hid (types_code t1.kids [])
  have fin : ∀ (w2 : World), Below w.heap.size w w2 → Hid (Calls Tryd.prog 10 #[] w2 fun e w' => e = .returned (.bool true) ∧ Below w2.heap.size w2 w') := fun w2 h => Lib.hid (wakes11_any w2 (HT.out.below h HT.out.size))
  cases hr1 : typesF [] t1.kids with
  | error pc =>
    obtain ⟨q, c⟩ := pc
    rw [hr1] at hp
    obtain ⟨rfl, hb⟩ := hp
    have hcc := HCD.out q c hr1
    have hne : (c != 0) = true := by rw [bne_iff_ne]; omega
    have HB2 := Lib.hid (HB1.out.trans (hb.mono HB1.out.size))
    have HWK := fin w2 HB2.out
    clear hb hr1 hcc fin
    go_wp2_with fail
    refine HWK.out.mono ?_
    rintro e w3 ⟨rfl, hb⟩
    have HB3 := Lib.hid (HB2.out.trans (hb.mono HB2.out.size))
    have HWK3 := Lib.hid (wakes11_any w3 (HT.out.below HB3.out HT.out.size))
    clear hb HWK
    by_cases hc1 : c1 = 0
    · obtain rfl := hc1
      go_wp2_with fail
      refine HWK3.out.mono ?_
      rintro e w4 ⟨rfl, hb⟩
      go_wp2_with fail
      go_ret
      exact ⟨rfl, HB3.out.trans (hb.mono HB3.out.size)⟩
    · have hne1 : (c1 != 0) = true := by simpa using hc1
      go_wp2_with fail
      refine HWK3.out.mono ?_
      rintro e w4 ⟨rfl, hb⟩
      go_wp2_with fail
      go_ret
      exact ⟨rfl, HB3.out.trans (hb.mono HB3.out.size)⟩
  | ok tys =>
    rw [hr1] at hp
    obtain ⟨v, rfl, hv, hb⟩ := hp
    have HB2 := Lib.hid (HB1.out.trans (hb.mono HB1.out.size))
    have HV2 := Lib.hid hv
    have HN2 := Lib.hid (HN1.out.stays hb)
    have HK2 := Lib.hid (HK1.out.below hb)
    have HWK := fin w2 HB2.out
    have HRR := Lib.hid hr1
    obtain ⟨va, vc, rfl⟩ := hv.slice
    clear hb hv fin HK1 HN1 hr1
    go_wp2_with fail
    refine HWK.out.mono ?_
    rintro e w3 ⟨rfl, hb⟩
    have HB3 := Lib.hid (HB2.out.trans (hb.mono HB2.out.size))
    have HV3 := Lib.hid (HV2.out.below hb)
    have HN3 := Lib.hid (HN2.out.stays hb)
    have HK3 := Lib.hid (HK2.out.below hb)
    have HWK3 := Lib.hid (wakes11_any w3 (HT.out.below HB3.out HT.out.size))
    clear hb HWK HV2 HN2 HK2
    by_cases hc1 : c1 = 0
    · obtain rfl := hc1
      have HSD := Lib.hid (show Sound tys from typesF_sound t1.kids (fun i x h => by simp at h) HRR.out)
      have HLN : Hid (tys.length ≤ 4096) := by
        have h1 := len_sizes t1.kids
        have h2 : t1.size = 1 + sizes t1.kids := by cases t1; rw [size_mk]; rfl
        have h3 := HD1.out.2
        obtain ⟨zs, e, ha⟩ := typesF_order t1.kids HRR.out
        have h4 := ha.len
        have h5 := List.length_filter_le (fun t : T => t.kind == 1) t1.kids
        exact Lib.hid (by rw [e]; simp; omega)
      have hln := HLN.out
      go_wp2_with fail
      go_loopw [40] (fun i wr => ∃ k : Nat, k ≤ tys.length ∧ i = .int .i64 k ∧ Below w3.heap.size w3 wr) (fun i _ => tys.length - (intOf i).toNat)
      case atStart => exact ⟨0, by omega, rfl, Below.refl _ _⟩
      case round =>
        obtain ⟨k, hkk, rfl, hbw⟩ := hrel
        obtain ⟨wo, rfl⟩ : ∃ W, W = wr := ⟨_, rfl⟩
        by_cases hlt : k < tys.length
        · obtain ⟨x, hx⟩ : ∃ x, tys[k]? = some x := ⟨_, List.getElem?_eq_getElem hlt⟩
          obtain ⟨hgood, hfind⟩ := HSD.out k x hx
          have HGD := Lib.hid hgood
          obtain ⟨tg, tcap, htsl, htg, htcap, htcm, htget⟩ := (HV3.out.form).resolve_left fun h => by rw [h.2] at hlt; simp at hlt
          obtain ⟨rfl, rfl⟩ : va = some ⟨tg, 0, none⟩ ∧ vc = tcap := by simpa using htsl
          obtain ⟨pv, lv, hrt, hty⟩ := htget k x hx
          have HRT := Lib.hid (rangeAt_below hrt hbw htg.2)
          have HTAB := Lib.hid (show ∀ (i : Nat) (y : Ty), tys[i]? = some y → w3.cell? ⟨tg, i * 5 + 1, none⟩ = some (.int .i64 y.sort) from fun i y hy => by
            obtain ⟨p, l, hr, _⟩ := htget i y hy
            exact hr 1 _ rfl)
          obtain ⟨W4, hW4⟩ : ∃ W, wo.alloc (.cells (tyCells x pv lv).toArray 50) = W := ⟨_, rfl⟩
          have hb4 : Below wo.heap.size wo W4 := hW4 ▸ (Below.refl _ _).alloc (Nat.le_refl _) _
          have HB4 := Lib.hid (hbw.trans (hb4.mono hbw.size))
          have HN4 := Lib.hid (show Blk W4 wo.heap.size (tyCells x pv lv) 50 from hW4 ▸ Blk.new wo _ _)
          have HF3 := Lib.hid (hty.1)
          have HC3 := Lib.hid (hty.2)
          obtain ⟨pa, pc, rfl⟩ := RAt.slice hty.1
          obtain ⟨la, lc, rfl⟩ := RAt.slice hty.2
          have hone : ∀ u ∈ tyCells x (.slice pa x.fields.length pc) (.slice la x.facts.length lc), u.oneCell' = true := by
            intro u hu
            simp only [tyCells, List.mem_cons, List.not_mem_nil, or_false] at hu
            rcases hu with rfl | rfl | rfl | rfl | rfl <;> rfl
          have HONE := Lib.hid hone
          have c0 : W4.cell? ⟨wo.heap.size, 0, none⟩ = some (.string x.name) := HN4.out.cell 0
          have htt : Tys W4 (some ⟨tg, 0, none⟩) tys := by
            obtain ⟨A, c, e, _, h⟩ := (HV3.out.below HB4.out).tys
            have : A = some ⟨tg, 0, none⟩ := by simpa using (Value.slice.inj e).1.symm
            rw [← this]; exact h
          have HFY := Lib.hid (tfind_any x.name (some ⟨tg, 0, none⟩) vc tys W4 htt (by omega))
          rw [hfind] at HFY
          clear htget hrt hty htsl hx hfind hgood hb4 hbw hone htt
          unfold maxLen at htcm
          go_wp2_with (first
            | ((with_reducible refine at_ld 50 (.tmp 43) ?_); refine wpList_load_mid rfl 50 (.tmp 43) rfl tg (k * 5) rfl (tyCells x (.slice pa x.fields.length pc) (.slice la x.facts.length lc)) _ HRT.out Tryd.underlying50 rfl Tryd.sizeSType ?_)
            | ((with_reducible refine at_st 50 (.tmp 10) ?_); refine wpList_store_new rfl 50 (.tmp 10) (.tmp 44) rfl (tyCells x (.slice pa x.fields.length pc) (.slice la x.facts.length lc)) (old := [.string ⟨#[]⟩, .int .i64 0, .int .i64 0, .slice none 0 0, .slice none 0 0]) rfl rfl Tryd.sizeSType rfl HONE.out ?_; rw [hW4]))
          refine HFY.out.mono ?_
          clear hW4 HFY c0
          rintro e w5 ⟨rfl, hb5⟩
          have HB5 := Lib.hid (HB4.out.trans (hb5.mono HB4.out.size))
          have HN5 := Lib.hid (HN4.out.stays hb5)
          have hl8 : ¬ (8 : Int) < (x.fields.length : Int) := by have := HGD.out.len; omega
          have hl8' : decide (8 < x.fields.length) = false := by have := HGD.out.len; simpa using this
          have c3 : w5.cell? ⟨wo.heap.size, 3, none⟩ = some (.slice pa x.fields.length pc) := HN5.out.cell 3
          clear hb5 HB4 HN4
          simp only [oi]
          go_wp2_with fail
          clear c3 hl8 hl8'
          go_loopw [60] (fun i wr => ∃ j : Nat, j ≤ x.fields.length ∧ i = .int .i64 j ∧ Below w5.heap.size w5 wr) (fun i _ => x.fields.length - (intOf i).toNat)
          case atStart => exact ⟨0, by omega, rfl, Below.refl _ _⟩
          case round =>
            obtain ⟨j, hj, rfl, hbi⟩ := hrel
            have hln8 := HGD.out.len
            by_cases hlj : j < x.fields.length
            · obtain ⟨f, hf⟩ : ∃ f, x.fields[j]? = some f := ⟨_, List.getElem?_eq_getElem hlj⟩
              obtain ⟨fg, fcap, hfsl, hfg, hfcap, hfcm, hfget⟩ := (RAt.form fld_len HF3.out).resolve_left fun h => by rw [h.2] at hlj; simp at hlj
              obtain ⟨rfl, rfl⟩ : pa = some ⟨fg, 0, none⟩ ∧ pc = fcap := by simpa using hfsl
              have hb3 := HB5.out.trans (hbi.mono HB5.out.size)
              have HR := Lib.hid (rangeAt_below (hfget j f hf) hb3 hfg.2)
              obtain ⟨W6, hW6⟩ : ∃ W, wr.alloc (.cells (fldCells f).toArray 53) = W := ⟨_, rfl⟩
              have hb6 : Below wr.heap.size wr W6 := hW6 ▸ (Below.refl _ _).alloc (Nat.le_refl _) _
              have HB6 := Lib.hid (hbi.trans (hb6.mono hbi.size))
              have hb36 := hb3.trans (hb6.mono hb3.size)
              have hn6 := (HN5.out.stays hbi).stays hb6
              have d1 : W6.cell? ⟨wr.heap.size, 1, none⟩ = some (.int .i64 f.2) := (show Blk W6 wr.heap.size (fldCells f) 53 from hW6 ▸ Blk.new wr _ _).cell 1
              have t1' : W6.cell? ⟨wo.heap.size, 1, none⟩ = some (.int .i64 x.sort) := hn6.cell 1
              have t3' : W6.cell? ⟨wo.heap.size, 3, none⟩ = some (.slice (some ⟨fg, 0, none⟩) x.fields.length pc) := hn6.cell 3
              have hsz := HGD.out.size j f hf
              unfold maxLen at hfcm
              rcases hsz with hz | ⟨hso, q, hq, g, hg, hg2⟩
              · clear hfget hfsl hb3 hb6 hb36 hn6 hf
                rw [hz] at d1
                have a3 : decide ((x.fields.length : Int) ≤ -1) = false := by simp; omega
                go_wp2_with (first
                  | ((with_reducible refine at_ld 53 (.tmp 62) ?_); refine wpList_load_mid rfl 53 (.tmp 62) rfl fg (j * 2) rfl (fldCells f) _ HR.out Tryd.underlying53 rfl Tryd.sizeFld ?_)
                  | ((with_reducible refine at_st 53 (.tmp 12) ?_); refine wpList_store_new rfl 53 (.tmp 12) (.tmp 63) rfl (fldCells f) (old := [.string ⟨#[]⟩, .int .i64 0]) rfl rfl Tryd.sizeFld rfl (fld_one f) ?_; rw [hW6]))
                go_roundw
                case rel => exact ⟨j + 1, by omega, by go_num, HB6.out⟩
                case measure => simp [intOf]; omega
              · have hql : q < x.fields.length := (List.getElem?_eq_some_iff.1 hg).1
                have e1 : W6.cell? ⟨fg, q * 2 + 1, none⟩ = some (.int .i64 (-1)) := hg2 ▸ (rangeAt_below (hfget q g hg) hb36 hfg.2) 1 _ rfl
                clear hfget hfsl hb3 hb6 hb36 hn6 hf hg
                rw [hq] at d1
                rw [hso] at t1'
                have a1 : decide ((q : Int) < -1) = false := by simp
                have a2 : decide (x.fields.length ≤ q) = false := by simpa using hql
                have a3 : (q : Int) < (x.fields.length : Int) := by omega
                go_wp2_with (first
                  | ((with_reducible refine at_ld 53 (.tmp 62) ?_); refine wpList_load_mid rfl 53 (.tmp 62) rfl fg (j * 2) rfl (fldCells f) _ HR.out Tryd.underlying53 rfl Tryd.sizeFld ?_)
                  | ((with_reducible refine at_st 53 (.tmp 12) ?_); refine wpList_store_new rfl 53 (.tmp 12) (.tmp 63) rfl (fldCells f) (old := [.string ⟨#[]⟩, .int .i64 0]) rfl rfl Tryd.sizeFld rfl (fld_one f) ?_; rw [hW6]))
                go_roundw
                case rel => exact ⟨j + 1, by omega, by go_num, HB6.out⟩
                case measure => simp [intOf]; omega
            · obtain ⟨wa, rfl⟩ : ∃ W, W = wr := ⟨_, rfl⟩
              have HBA := Lib.hid (HB5.out.trans (hbi.mono HB5.out.size))
              have HNA := Lib.hid (HN5.out.stays hbi)
              have c4 : wa.cell? ⟨wo.heap.size, 4, none⟩ = some (.slice la x.facts.length lc) := HNA.out.cell 4
              clear hbi HB5 HN5
              go_wp2_with fail
              clear c4 hlj
              go_loopw [99] (fun i wr => ∃ j : Nat, j ≤ x.facts.length ∧ i = .int .i64 j ∧ Below wa.heap.size wa wr) (fun i _ => x.facts.length - (intOf i).toNat)
              case atStart => exact ⟨0, by omega, rfl, Below.refl _ _⟩
              case round =>
                obtain ⟨m, hm, rfl, hbi⟩ := hrel
                by_cases hlm : m < x.facts.length
                · obtain ⟨f, hf⟩ : ∃ f, x.facts[m]? = some f := ⟨_, List.getElem?_eq_getElem hlm⟩
                  obtain ⟨fg, fcap, hfsl, hfg, hfcap, hfcm, hfget⟩ := (RAt.form fa_len HC3.out).resolve_left fun h => by rw [h.2] at hlm; simp at hlm
                  obtain ⟨rfl, rfl⟩ : la = some ⟨fg, 0, none⟩ ∧ lc = fcap := by simpa using hfsl
                  have hb3 := HBA.out.trans (hbi.mono HBA.out.size)
                  have HR := Lib.hid (rangeAt_below (hfget m f hf) hb3 hfg.2)
                  obtain ⟨W6, hW6⟩ : ∃ W, wr.alloc (.cells (faCells f).toArray 30) = W := ⟨_, rfl⟩
                  have hb6 : Below wr.heap.size wr W6 := hW6 ▸ (Below.refl _ _).alloc (Nat.le_refl _) _
                  have HB6 := Lib.hid (hbi.trans (hb6.mono hbi.size))
                  have h6 := show Blk W6 wr.heap.size (faCells f) 30 from hW6 ▸ Blk.new wr _ _
                  have d0 : W6.cell? ⟨wr.heap.size, 0, none⟩ = some (.int .i64 f.x) := h6.cell 0
                  have d1 : W6.cell? ⟨wr.heap.size, 1, none⟩ = some (.int .i64 f.y) := h6.cell 1
                  have t3' : W6.cell? ⟨wo.heap.size, 3, none⟩ = some (.slice pa x.fields.length pc) := ((HNA.out.stays hbi).stays hb6).cell 3
                  obtain ⟨⟨x0, x1⟩, ⟨y0, y1⟩⟩ := HGD.out.fact f (List.mem_of_getElem? hf)
                  have b1 : ¬ f.x < 0 := by omega
                  have b2 : ¬ (x.fields.length : Int) < f.x := by omega
                  have b3 : ¬ f.y < 0 := by omega
                  have b4 : ¬ (x.fields.length : Int) < f.y := by omega
                  clear hfget hfsl hb3 hb6 hf h6 hbi x0 x1 y0 y1
                  unfold maxLen at hfcm
                  go_wp2_with (first
                    | ((with_reducible refine at_ld 30 (.tmp 101) ?_); refine wpList_load_mid rfl 30 (.tmp 101) rfl fg (m * 3) rfl (faCells f) _ HR.out Tryd.underlying30 rfl Tryd.sizeLeq3 ?_)
                    | ((with_reducible refine at_st 30 (.tmp 14) ?_); refine wpList_store_new rfl 30 (.tmp 14) (.tmp 102) rfl (faCells f) (old := [.int .i64 0, .int .i64 0, .int .i64 0]) rfl rfl Tryd.sizeLeq3 rfl (fa_one f) ?_; rw [hW6]))
                  go_roundw
                  case rel => exact ⟨m + 1, by omega, by go_num, HB6.out⟩
                  case measure => simp [intOf]; omega
                · have HBB := Lib.hid (HBA.out.trans (hbi.mono HBA.out.size))
                  have hnb := HNA.out.stays hbi
                  have t1' : wr.cell? ⟨wo.heap.size, 1, none⟩ = some (.int .i64 x.sort) := hnb.cell 1
                  have t2' : wr.cell? ⟨wo.heap.size, 2, none⟩ = some (.int .i64 x.of) := hnb.cell 2
                  have t3' : wr.cell? ⟨wo.heap.size, 3, none⟩ = some (.slice pa x.fields.length pc) := hnb.cell 3
                  have fin : ∀ (i : Nat) (y : Ty), tys[i]? = some y → wr.cell? ⟨tg, i * 5 + 1, none⟩ = some (.int .i64 y.sort) := fun i y hy => (HBB.out.cell (p := ⟨tg, i * 5 + 1, none⟩) htg.2).trans (HTAB.out i y hy)
                  have ffl : ∀ (q : Nat) (g : ByteArray × Int), x.fields[q]? = some g → ∃ fg, pa = some ⟨fg, 0, none⟩ ∧ wr.cell? ⟨fg, q * 2 + 1, none⟩ = some (.int .i64 g.2) := fun q g hg => by
                    have hql : q < x.fields.length := (List.getElem?_eq_some_iff.1 hg).1
                    obtain ⟨fg, fcap, hfsl, hfg, hfcap, hfcm, hfget⟩ := (RAt.form fld_len HF3.out).resolve_left fun h => by rw [h.2] at hql; simp at hql
                    obtain ⟨rfl, rfl⟩ : pa = some ⟨fg, 0, none⟩ ∧ pc = fcap := by simpa using hfsl
                    exact ⟨fg, rfl, (rangeAt_below (hfget q g hg) HBB.out hfg.2) 1 _ rfl⟩
                  have HFIN := Lib.hid fin
                  have HFFL := Lib.hid ffl
                  clear hnb hbi fin ffl
                  have hcase : (x.sort = 2 ∨ x.sort = 3) ∨ x.sort = 4 ∨ ((x.sort == 2) = false ∧ (x.sort == 3) = false ∧ (x.sort == 4) = false) := by simp only [beq_eq_false_iff_ne, ne_eq]; omega
                  rcases hcase with hso | hso | ⟨h2, h3, h4⟩
                  · obtain ⟨q, hq, g, hg, hg2⟩ := HGD.out.of hso
                    obtain ⟨fg, rfl, e1⟩ := HFFL.out q g hg
                    have hql : q < x.fields.length := (List.getElem?_eq_some_iff.1 hg).1
                    rw [hq] at t2'
                    rw [hg2] at e1
                    have a2 : decide (x.fields.length ≤ q) = false := by simpa using hql
                    have a3 : (q : Int) < (x.fields.length : Int) := by omega
                    rcases hso with hso | hso
                    all_goals
                      rw [hso] at t1'
                      clear hso hg hq hg2
                      go_wp2_with fail
                      go_roundw
                      case rel => exact ⟨k + 1, by omega, by go_num, HBB.out⟩
                      case measure => simp [intOf]; omega
                  · obtain ⟨q, hq, y, hy, hy3⟩ := HGD.out.guard hso
                    rw [List.getElem?_take] at hy
                    have hqk : q < k := by
                      rcases Nat.lt_or_ge q k with h | h
                      · exact h
                      · rw [if_neg (by omega)] at hy; cases hy
                    rw [if_pos hqk] at hy
                    have e1 := HFIN.out q y hy
                    rw [hy3] at e1
                    rw [hq] at t2'
                    rw [hso] at t1'
                    have a2 : decide (k ≤ q) = false := by simpa using hqk
                    have a3 : (q : Int) < (tys.length : Int) := by omega
                    clear hso hy hq hy3
                    go_wp2_with fail
                    go_roundw
                    case rel => exact ⟨k + 1, by omega, by go_num, HBB.out⟩
                    case measure => simp [intOf]; omega
                  · go_wp2_with fail
                    go_roundw
                    case rel => exact ⟨k + 1, by omega, by go_num, HBB.out⟩
                    case measure => simp [intOf]; omega
        · have HB6 := Lib.hid (HB3.out.trans (hbw.mono HB3.out.size))
          go_wp2_with fail
          go_ret
          exact ⟨rfl, HB6.out⟩
    · have hne1 : (c1 != 0) = true := by simpa using hc1
      go_wp2_with fail
      refine HWK3.out.mono ?_
      rintro e w4 ⟨rfl, hb⟩
      go_wp2_with fail
      go_ret
      exact ⟨rfl, HB3.out.trans (hb.mono HB3.out.size)⟩

theorem shapeSound_reads (os : Os) {H : Type} (enc : TypeId × Value → H) : ∃ places, DataW.whole enc Tryd.prog ((laidWorld os).forCall (fun _ _ => 0) ⟨#[], #[.string ⟨#[]⟩], []⟩).memory Tryd.f5.params.toList Rows.shapeSoundSpec.vars false #[Value.string ⟨#[]⟩].toList 8 = some ([.lit (.string [])], [], places) :=
  ⟨[], by kernel_rfl⟩

set_option maxRecDepth 100000 in
theorem shapeSound_lifted (os : Os) (started : os.Started) (H : Type) (enc : TypeId × Value → H) (F : Stop.Interp) :
    ReturnsInHanded {} Tryd.checked os 5 .any ((OpenSpec.ofChange Rows.shapeSoundSpec).preRow enc Tryd.prog Tryd.f5 Rows.shapeSoundRow.domain false Rows.shapeSoundRow.laid) (((OpenSpec.ofChange Rows.shapeSoundSpec).at F).post enc Tryd.prog Tryd.f5 false true false false) := by
  obtain ⟨places, hx⟩ := shapeSound_reads os enc
  refine returnsInHanded_of_row (C := Tryd.checked) (s := OpenSpec.ofChange Rows.shapeSoundSpec) own started (by kernel_rfl) Tryd.func5
    (witness_row_at (enc := enc) (C := Tryd.checked) false (laidWorld os) #[.string ⟨#[]⟩] rfl (by kernel_rfl) (by kernel_rfl) (by kernel_rfl)
      (OpenSpec.preRow_of_cond 8 hx (by kernel_rfl) (fun k hk => by cases hk) (by kernel_rfl) (laid_met_text os))) ?_
  intro W base args ds gs before hval hW _ _ _ hL _ _
  exact text_contract Tryd.params5 (by kernel_rfl) rfl (fun _ => rfl) shapeSound_walk W base args ds gs before hval hW hL

theorem shapeSound_said : Rows.ShapeSoundSaid :=
  OpenClaim.holds_of_cond 5 Tryd.f5 rfl rfl rfl rfl rfl rfl rfl ⟨rfl, rfl, rfl, rfl, rfl⟩ rfl rfl rfl rfl rfl (by kernel_rfl) Tryd.func5 (by kernel_rfl)
    (of_decide_eq_true (by kernel_rfl)) (by unfold Func.isWrapper; first | (rw [if_pos (by decide +kernel)]; kernel_rfl) | (rw [if_neg (by decide +kernel)]; exact ⟨rfl, rfl⟩))
    (fun os started H enc _ F => by rw [OpenClaim.pre_eq_preRow]; exact shapeSound_lifted os started H enc F)

theorem shapeSound_plain (f : FuncId) (fn : Func) (hf : Tryd.pinned.checked.prog.funcNamed "lychgate/lychgatelaw11.ShapeSound" = some f) (hfn : Tryd.pinned.checked.prog.funcs[f]? = some fn) :
    true = Tryd.pinned.checked.prog.looks [] ∧ ∀ (j : Nat) t, fn.params[j]? = some t → Tryd.pinned.checked.prog.wantsStandIn t = false := by
  obtain rfl : f = 5 := Option.some.inj ((show Tryd.prog.funcNamed "lychgate/lychgatelaw11.ShapeSound" = some 5 by kernel_rfl).symm.trans hf) |>.symm
  obtain rfl : fn = Tryd.f5 := (Option.some.inj (Tryd.func5.symm.trans hfn)).symm
  refine ⟨by kernel_rfl, fun j t ht => ?_⟩
  rw [Tryd.params5] at ht
  obtain rfl : t = 9 := by simpa using Array.mem_of_getElem? ht
  exact (show Tryd.prog.wantsStandIn 9 = false by kernel_rfl)

theorem shapeSound_card : Rows.ShapeSoundCardSaid :=
  Claim7.holds_tied_plain_at .later [] _ _ _ _ shapeSound_said (fun _ h => by cases h) (by kernel_rfl) (fun _ h => by cases h) shapeSound_row_tie rfl ⟨rfl, rfl⟩ (by kernel_rfl) rfl shapeSound_plain (by kernel_rfl)

end Go.Proofs.YtdkdidgeaalcgaaDoor
