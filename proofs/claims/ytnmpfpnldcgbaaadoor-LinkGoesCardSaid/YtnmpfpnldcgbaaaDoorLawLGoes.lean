/- Proved here: for every two texts that lychgatelaw08.LinkGoes is called with, in every memory in which lex's tables stand as the program's text lays them, the call returns true and the texts read as before. Conditions: the package-level tables lex.keys, lex.blanks and lex.pairs hold what their initialisers lay (the card ties them to the program's text). -/
import Derived.Test.YtnmpfpnldcgbaaaDoorWakes8
import Derived.Test.YtnmpfpnldcgbaaaDoorTabs2
import Derived.Test.YtnmpfpnldcgbaaaDoorLnkG
import Derived.Maps.OwnOps
namespace Go.Proofs.YtnmpfpnldcgbaaaDoor
open Go.ChangeShapes Go.WideShapes Go.ChangeAt Go.RowKit Go.Maps

set_option maxHeartbeats 2000000 in
set_option maxRecDepth 100000 in
theorem linkGoes_walk (a b : ByteArray) (w : World) (hsa : a.size ≤ maxLen) (hsb : b.size ≤ maxLen) (_ : a.size ≤ 140737488351232) (_ : b.size ≤ 140737488351232) (ht : Tabs w) :
    Calls Tryd.prog 9 #[.string a, .string b] w fun e w' => e = .returned (.bool true) ∧ Below w.heap.size w w' := by
  have HT := Lib.hid ht
  have ga := Lib.hid (parse_linkOk a)
  have gb := Lib.hid (parse_linkOk b)
  obtain ⟨ta, pa, ca, hqa⟩ : ∃ t p c, parseB a = (t, p, c) := ⟨_, _, _, rfl⟩
  obtain ⟨tb, pb, cb, hqb⟩ : ∃ t p c, parseB b = (t, p, c) := ⟨_, _, _, rfl⟩
  rw [hqa] at ga
  rw [hqb] at gb
  have HQA := Lib.hid hqa
  have HQB := Lib.hid hqb
  have HSA := Lib.hid hsa
  have HSB := Lib.hid hsb
  clear ht hqa hqb hsa hsb
  go_enter Tryd.func9, Tryd.ntmps9
  go_wp2_with fail
  refine (parse_any a w HSA.out HT.out).mono ?_
  rw [HQA.out]
  rintro e w1 ⟨kva, rfl, hka, hb1⟩
  have HOA := Lib.hid (KAt.one hka)
  have HKA := Lib.hid (KAt.alloc hka (.cells (nodeCells ta kva).toArray 25))
  have HBA := Lib.hid (hb1.alloc hb1.size (.cells (nodeCells ta kva).toArray 25))
  have HNA := Lib.hid (Blk.new w1 (nodeCells ta kva) 25)
  have HTA := Lib.hid (HT.out.below HBA.out HT.out.size)
  clear hka hb1
  unfold NodeV
  go_wp2_with ((with_reducible refine at_st 25 (.tmp 5) ?_); refine wpList_store_new rfl 25 (.tmp 5) (.tmp 28) rfl (nodeCells ta kva) (old := zeroNodeCells) rfl rfl Tryd.sizeNode rfl (nodeCells_one _ _ HOA.out) ?_)
  refine (parse_any b _ HSB.out HTA.out).mono ?_
  rw [HQB.out]
  rintro e w2 ⟨kvb, rfl, hkb, hb2⟩
  have HOB := Lib.hid (KAt.one hkb)
  have HKB := Lib.hid (KAt.alloc hkb (.cells (nodeCells tb kvb).toArray 25))
  have hb2' : Below (w1.alloc (.cells (nodeCells ta kva).toArray 25)).heap.size (w1.alloc (.cells (nodeCells ta kva).toArray 25)) (w2.alloc (.cells (nodeCells tb kvb).toArray 25)) := hb2.alloc hb2.size _
  have HKA2 := Lib.hid (HKA.out.below hb2')
  have HNA2 := Lib.hid (HNA.out.stays hb2')
  have HNB := Lib.hid (Blk.new w2 (nodeCells tb kvb) 25)
  have HBB := Lib.hid (HBA.out.trans (hb2'.mono HBA.out.size))
  have HTB := Lib.hid (HT.out.below HBB.out HT.out.size)
  clear hkb hb2 hb2' HKA HNA HTA HBA
  obtain ⟨W2, hW2⟩ : ∃ W, w2.alloc (.cells (nodeCells tb kvb).toArray 25) = W := ⟨_, rfl⟩
  rw [hW2] at HKB HKA2 HNA2 HNB HBB HTB
  unfold NodeV
  go_wp2_with ((with_reducible refine at_st 25 (.tmp 8) ?_); refine wpList_store_new rfl 25 (.tmp 8) (.tmp 34) rfl (nodeCells tb kvb) (old := zeroNodeCells) rfl rfl Tryd.sizeNode rfl (nodeCells_one _ _ HOB.out) ?_)
  first | refine calls_at W2 hW2 ?_ | skip
  clear hW2
  refine (wakes8_any W2 HTB.out).mono ?_
  rintro e w3 ⟨rfl, hb3⟩
  have HKA3 := Lib.hid (HKA2.out.below hb3)
  have HNA3 := Lib.hid (HNA2.out.stays hb3)
  have HKB3 := Lib.hid (HKB.out.below hb3)
  have HNB3 := Lib.hid (HNB.out.stays hb3)
  have HB3 := Lib.hid (HBB.out.trans (hb3.mono HBB.out.size))
  have HT3 := Lib.hid (HT.out.below HB3.out HT.out.size)
  clear hb3 HKA2 HNA2 HKB HNB HBB HTB
  by_cases hab : ca = 0 ∧ cb = 0
  · obtain ⟨rfl, rfl⟩ := hab
    go_wp2_with (first
      | ((with_reducible refine at_ld 25 (.tmp 5) ?_); refine wpList_load_blk rfl 25 (.tmp 5) rfl w1.heap.size (nodeCells ta kva) rfl HNA3.out Tryd.underlying25 rfl Tryd.sizeNode ?_)
      | ((with_reducible refine at_ld 25 (.tmp 8) ?_); refine wpList_load_blk rfl 25 (.tmp 8) rfl w2.heap.size (nodeCells tb kvb) rfl HNB3.out Tryd.underlying25 rfl Tryd.sizeNode ?_))
    refine (link_ok HKA3.out HKB3.out ga.out gb.out).mono ?_
    rintro e w4 ⟨v4, rfl, hc4, hb4⟩
    have HKA4 := Lib.hid (HKA3.out.below hb4)
    have HNA4 := Lib.hid (HNA3.out.stays hb4)
    have HKB4 := Lib.hid (HKB3.out.below hb4)
    have HNB4 := Lib.hid (HNB3.out.stays hb4)
    have HB4 := Lib.hid (HB3.out.trans (hb4.mono HB3.out.size))
    have hnc : w3.heap.size ≤ w4.heap.size := hb4.size
    clear hb4 HKA3 HNA3 HKB3 HNB3 HB3
    obtain ⟨va4, vc4, rfl⟩ := hc4.slice
    have HC4 := Lib.hid hc4
    clear hc4
    rcases linkL_form ta tb with ⟨p, is, er, hr, hcase⟩ | ⟨m, hr, hm⟩
    · have her : (er != 0) = true := by rcases hcase with h | h <;> simp <;> omega
      have HB5 := Lib.hid (HB4.out.alloc HB4.out.size (.cells [.slice va4 0 vc4, .int .i64 0, .int .i64 0].toArray 60))
      have i0 : (w4.alloc (.cells [.slice va4 0 vc4, .int .i64 0, .int .i64 0].toArray 60)).cell? ⟨w4.heap.size, 0, none⟩ = some (.slice va4 0 vc4) := (Blk.new w4 [.slice va4 0 vc4, .int .i64 0, .int .i64 0] 60).cell 0
      rw [hr]
      clear hr hcase HC4
      show _
      go_wp2_with ((with_reducible refine at_st 60 (.tmp 11) ?_); refine wpList_store_new rfl 60 (.tmp 11) (.tmp 52) rfl [.slice va4 0 vc4, .int .i64 0, .int .i64 0] (old := imgCells (.slice none 0 0) 0 0) rfl rfl Tryd.sizeImage rfl (by intro x hx; simp only [List.mem_cons, List.not_mem_nil, or_false] at hx; rcases hx with rfl | rfl | rfl <;> rfl) ?_)
      go_ret
      exact ⟨rfl, HB5.out⟩
    · have HC5 := Lib.hid (show CodsAt w4 m.codes (fun b => w3.heap.size ≤ b) (.slice va4 m.codes.length vc4) from by have h := HC4.out; rw [hr] at h; exact h)
      rw [hr]
      have hmain := hm.main
      have hml : m.main < m.codes.length := findN_lt hmain
      have hlm := hm.lo
      have HM := Lib.hid hm
      have HNE := Lib.hid (show ∀ c ∈ m.codes, c.list ≠ [] ∧ (c.name.size ≤ maxLen ∧ YOk c.list) from by
        intro c hc
        rw [hm.codes, List.mem_append] at hc
        have one : ∀ {x : T}, LinkOk x → c ∈ (fnsL x.kids).map lowerI → c.list ≠ [] ∧ (c.name.size ≤ maxLen ∧ YOk c.list) := fun {x} hx hc => by
          obtain ⟨t, ht, rfl⟩ := List.mem_map.1 hc
          obtain ⟨h1, h2⟩ := List.mem_filter.1 ht
          have h6 : t.kind = 6 := by simpa using h2
          refine ⟨?_, by rw [lowerI_name h6]; exact hx.n t h1 h6, hx.y t h1⟩
          unfold lowerI
          rw [show (t.kind == 6) = true from h2]
          simp
        rcases hc with hc | hc
        · exact one ga.out hc
        · exact one gb.out hc)
      have HCN := Lib.hid (show ∀ c ∈ m.codes, cntN m.codes c.name = 1 from uniq_cnt hm.uniq)
      have HLEN := Lib.hid (show m.codes.length ≤ 20000 from by
        rw [hm.codes]
        have h1 := len_sizes ta.kids
        have h2 : ta.size = 1 + sizes ta.kids := by cases ta; rw [size_mk]; rfl
        have h3 := len_sizes tb.kids
        have h4 : tb.size = 1 + sizes tb.kids := by cases tb; rw [size_mk]; rfl
        have h5 := List.length_filter_le (fun t : T => t.kind == 6) ta.kids
        have h6 := List.length_filter_le (fun t : T => t.kind == 6) tb.kids
        have h7 := ga.out.s
        have h8 := gb.out.s
        simp only [List.length_append, List.length_map, fnsL]
        omega)
      obtain ⟨cm, hcm1, hcm2⟩ := findN_first hmain
      rcases HC5.out.form with ⟨_, hnil⟩ | ⟨g, cap, hv, hg, hcap, hcmx, hget⟩
      · rw [hnil] at hml; simp at hml
      · obtain ⟨rfl, _, rfl⟩ : va4 = some ⟨g, 0, none⟩ ∧ True ∧ vc4 = cap := by simpa using hv
        have HGET := Lib.hid hget
        have HCAP := Lib.hid hcap
        have hg4 := hg.2
        have HCM := Lib.hid (And.intro hcm1 hcm2)
        have HMAIN := Lib.hid hmain
        clear hv hget hcap hg hm hr hcm1 hcm2 HC4 hmain
        unfold maxLen at hcmx
        have hmm := @run_makeMap Tryd.prog
        obtain ⟨W6, hW6, HG6⟩ : ∃ W, ((w4.alloc (.cells [.slice (some ⟨g, 0, none⟩) m.codes.length vc4, .int .i64 m.libs, .int .i64 m.main].toArray 60)).alloc (.map #[] 0)) = W ∧ Hid (GoSt w4 w4.heap.size (w4.heap.size + 1) [.slice (some ⟨g, 0, none⟩) m.codes.length vc4, .int .i64 m.libs, .int .i64 m.main] [] W) := ⟨_, rfl, Lib.hid ⟨(Blk.new w4 _ _).alloc _, by
          have h := CntAt.made (w4.alloc (.cells [.slice (some ⟨g, 0, none⟩) m.codes.length vc4, .int .i64 m.libs, .int .i64 m.main].toArray 60))
          rw [show (w4.alloc (.cells [.slice (some ⟨g, 0, none⟩) m.codes.length vc4, .int .i64 m.libs, .int .i64 m.main].toArray 60)).heap.size = w4.heap.size + 1 by simp] at h
          exact h, by omega, ⟨by omega, by omega⟩, ((Below.refl _ _).alloc (Nat.le_refl _) _).alloc (by simp) _⟩⟩
        have i0 : W6.cell? ⟨w4.heap.size, 0, none⟩ = some (.slice (some ⟨g, 0, none⟩) m.codes.length vc4) := HG6.out.i.cell 0
        have i9 : (w4.alloc (.cells [.slice (some ⟨g, 0, none⟩) m.codes.length vc4, .int .i64 m.libs, .int .i64 m.main].toArray 60)).cell? ⟨w4.heap.size, 0, none⟩ = some (.slice (some ⟨g, 0, none⟩) m.codes.length vc4) := (Blk.new w4 [.slice (some ⟨g, 0, none⟩) m.codes.length vc4, .int .i64 m.libs, .int .i64 m.main] 60).cell 0
        go_wp2_with ((with_reducible refine at_st 60 (.tmp 11) ?_); refine wpList_store_new rfl 60 (.tmp 11) (.tmp 52) rfl [.slice (some ⟨g, 0, none⟩) m.codes.length vc4, .int .i64 m.libs, .int .i64 m.main] (old := imgCells (.slice none 0 0) 0 0) rfl rfl Tryd.sizeImage rfl (by intro x hx; simp only [List.mem_cons, List.not_mem_nil, or_false] at hx; rcases hx with rfl | rfl | rfl <;> rfl) ?_)
        clear hmm i0 i9
        go_loopg [66] m.codes.length (fun gk i wr => ∃ k : Nat, k ≤ m.codes.length ∧ m.codes.length ≤ k + gk ∧ i = .int .i64 k ∧ GoSt w4 w4.heap.size (w4.heap.size + 1) [.slice (some ⟨g, 0, none⟩) m.codes.length vc4, .int .i64 m.libs, .int .i64 m.main] (m.codes.take k) wr)
        case atStart => exact ⟨0, by omega, by omega, rfl, by first | exact HG6.out | (rw [hW6]; exact HG6.out)⟩
        case round =>
          obtain ⟨k, hk, hgk, rfl, hgo⟩ := hrel
          have HGO := Lib.hid hgo
          have hzw := hgo.b.size
          clear hgo
          by_cases hlt : k < m.codes.length
          · obtain ⟨pv, lv, hr, hca⟩ := HGET.out k m.codes[k] (List.getElem?_eq_getElem hlt)
            have HTAKE := Lib.hid (show m.codes.take (k + 1) = m.codes.take k ++ [m.codes[k]] from List.take_succ_eq_append_getElem hlt)
            have HNM := Lib.hid ((HNE.out m.codes[k] (List.getElem_mem hlt)).2.1)
            generalize m.codes[k] = cd at hr hca HTAKE HNM
            obtain ⟨pa, pc, rfl⟩ := hca.1.slice
            obtain ⟨la, lc, rfl⟩ := hca.2.slice
            have HR := Lib.hid (show wr.rangeAt g (k * 3) [.string cd.name, .slice pa cd.params.length pc, .slice la cd.list.length lc] from rangeAt_below hr HGO.out.b hg4)
            have hcap := HCAP.out
            have hlen := HLEN.out
            obtain ⟨W, hW⟩ : ∃ W, wr.alloc (.cells [.string cd.name, .slice pa cd.params.length pc, .slice la cd.list.length lc].toArray 55) = W := ⟨_, rfl⟩
            have HGW := Lib.hid (show GoSt w4 w4.heap.size (w4.heap.size + 1) [.slice (some ⟨g, 0, none⟩) m.codes.length vc4, .int .i64 m.libs, .int .i64 m.main] (m.codes.take k) W from hW ▸ HGO.out.alloc _)
            have n0 : W.cell? ⟨wr.heap.size, 0, none⟩ = some (.string cd.name) := hW ▸ (Blk.new wr [.string cd.name, .slice pa cd.params.length pc, .slice la cd.list.length lc] 55).cell 0
            have hlk := HGW.out.c.look HNM.out
            have hcl : cntN (m.codes.take k) cd.name ≤ 20000 := by have := cntN_le (m.codes.take k) cd.name; simp at this; omega
            obtain ⟨mn, D, hmo, hmn, hmi, hmd⟩ := HGW.out.c
            have hmn2 : mn ≤ 20000 := by simp at hmn; omega
            clear hr hca
            go_wp2_with (first
              | ((with_reducible refine at_ld 55 (.tmp 68) ?_); refine wpList_load_mid rfl 55 (.tmp 68) rfl g (k * 3) rfl [.string cd.name, .slice pa cd.params.length pc, .slice la cd.list.length lc] _ HR.out Tryd.underlying55 rfl Tryd.sizeCode ?_)
              | ((with_reducible refine at_st 55 (.tmp 17) ?_); refine wpList_store_new rfl 55 (.tmp 17) (.tmp 69) rfl [.string cd.name, .slice pa cd.params.length pc, .slice la cd.list.length lc] (old := codCells cod0 (.slice none 0 0) (.slice none 0 0)) rfl rfl Tryd.sizeCode rfl (by intro x hx; simp only [List.mem_cons, List.not_mem_nil, or_false] at hx; rcases hx with rfl | rfl | rfl <;> rfl) ?_)
              | (at_mapUpdate; refine wpList_mapUpdate_own _ rfl _ _ _ 66 rfl 9 3 lawStr Tryd.underlying66 (plainElem Tryd.prog 3) (w4.heap.size + 1) mn D rfl hmo (by unfold maxLen; omega) (.string cd.name) (.int .i64 ((cntN (m.codes.take k) cd.name : Nat) + 1 : Int)) (keyL cd.name) rfl rfl (WideMaps.keyOf_string_mk Tryd.underlying9 HNM.out) (.lit (.int .i64 ((cntN (m.codes.take k) cd.name : Nat) + 1 : Int))) [] (plainElem_int Tryd.underlying3 (WalkArith.wf_i64 (by omega))) ?_; intro w8 hown8 hgrow8))
            have HG8 := Lib.hid (HGW.out.put hgrow8 (HTAKE.out ▸ CntAt.put hmn hmi hmd hown8))
            clear hown8 hgrow8 hmo hlk
            go_wp2_with fail
            go_roundg (gk - 1)
            case measure => omega
            case rel => exact ⟨k + 1, by omega, by omega, by go_num, HG8.out⟩
          · have HGF := Lib.hid (show GoSt w4 w4.heap.size (w4.heap.size + 1) [.slice (some ⟨g, 0, none⟩) m.codes.length vc4, .int .i64 m.libs, .int .i64 m.main] m.codes wr from by have h := HGO.out; rwa [List.take_of_length_le (by omega)] at h)
            have i0 : wr.cell? ⟨w4.heap.size, 0, none⟩ = some (.slice (some ⟨g, 0, none⟩) m.codes.length vc4) := HGF.out.i.cell 0
            clear HGO
            go_wp2_with fail
            clear i0
            go_loopg [79] m.codes.length (fun gk i wr => ∃ k : Nat, k ≤ m.codes.length ∧ m.codes.length ≤ k + gk ∧ i = .int .i64 k ∧ GoSt w4 w4.heap.size (w4.heap.size + 1) [.slice (some ⟨g, 0, none⟩) m.codes.length vc4, .int .i64 m.libs, .int .i64 m.main] m.codes wr)
            case atStart => exact ⟨0, by omega, by omega, rfl, HGF.out⟩
            case round =>
              rename World => wr
              clear HGF
              obtain ⟨k, hk, hgk, rfl, hgo⟩ := hrel
              have HGO := Lib.hid hgo
              have hzw := hgo.b.size
              clear hgo
              by_cases hlt : k < m.codes.length
              · obtain ⟨pv, lv, hr, hca⟩ := HGET.out k m.codes[k] (List.getElem?_eq_getElem hlt)
                have HNM := Lib.hid (HNE.out m.codes[k] (List.getElem_mem hlt))
                have HOK := Lib.hid (HM.out.ok m.codes[k] (List.getElem_mem hlt))
                have hone := HCN.out m.codes[k] (List.getElem_mem hlt)
                generalize m.codes[k] = cd at hr hca HNM HOK hone
                obtain ⟨pa, pc, rfl⟩ := hca.1.slice
                have HIN := Lib.hid hca.2
                rcases hca.2.form with ⟨_, hnil⟩ | ⟨g2, lc, rfl, hg2, hcap2, hcm2, hget2⟩
                · exact absurd hnil HNM.out.1
                · have hcap := HCAP.out
                  have hlen := HLEN.out
                  have HGET2 := Lib.hid hget2
                  have HCAP2 := Lib.hid hcap2
                  unfold maxLen at hcm2
                  obtain ⟨la, hla⟩ : ∃ la, la = some (⟨g2, 0, none⟩ : Addr) := ⟨_, rfl⟩
                  rw [← hla] at hr
                  have HLA := Lib.hid hla
                  clear hla
                  have HR := Lib.hid (show wr.rangeAt g (k * 3) [.string cd.name, .slice pa cd.params.length pc, .slice la cd.list.length lc] from rangeAt_below hr HGO.out.b hg4)
                  obtain ⟨W, hW⟩ : ∃ W, wr.alloc (.cells [.string cd.name, .slice pa cd.params.length pc, .slice la cd.list.length lc].toArray 55) = W := ⟨_, rfl⟩
                  have HGW := Lib.hid (show GoSt w4 w4.heap.size (w4.heap.size + 1) [.slice (some ⟨g, 0, none⟩) m.codes.length vc4, .int .i64 m.libs, .int .i64 m.main] m.codes W from hW ▸ HGO.out.alloc _)
                  have n0 : W.cell? ⟨wr.heap.size, 0, none⟩ = some (.string cd.name) := hW ▸ (Blk.new wr [.string cd.name, .slice pa cd.params.length pc, .slice la cd.list.length lc] 55).cell 0
                  have n2 : W.cell? ⟨wr.heap.size, 2, none⟩ = some (.slice la cd.list.length lc) := hW ▸ (Blk.new wr [.string cd.name, .slice pa cd.params.length pc, .slice la cd.list.length lc] 55).cell 2
                  have hlk : (Instr.lookup 66 (.map (some (w4.heap.size + 1))) (.string cd.name) false).run Tryd.prog W = .ok (.int .i64 1) W := by
                    have h := HGW.out.c.look HNM.out.2.1
                    rw [hone] at h
                    exact h
                  clear hr hca hget2 hcap2 hone
                  go_wp2_with (first
                    | ((with_reducible refine at_ld 55 (.tmp 81) ?_); refine wpList_load_mid rfl 55 (.tmp 81) rfl g (k * 3) rfl [.string cd.name, .slice pa cd.params.length pc, .slice la cd.list.length lc] _ HR.out Tryd.underlying55 rfl Tryd.sizeCode ?_)
                    | ((with_reducible refine at_st 55 (.tmp 19) ?_); refine wpList_store_new rfl 55 (.tmp 19) (.tmp 82) rfl [.string cd.name, .slice pa cd.params.length pc, .slice la cd.list.length lc] (old := codCells cod0 (.slice none 0 0) (.slice none 0 0)) rfl rfl Tryd.sizeCode rfl (by intro x hx; simp only [List.mem_cons, List.not_mem_nil, or_false] at hx; rcases hx with rfl | rfl | rfl <;> rfl) ?_))
                  obtain rfl := HLA.out
                  clear hlk n0 n2
                  first | (rw [hW]; clear hW) | clear hW
                  obtain ⟨go, hgo⟩ : ∃ go : Nat, gk = go + 0 := ⟨gk, rfl⟩
                  go_loopg [91] cd.list.length (fun gk i wr => ∃ j : Nat, j ≤ cd.list.length ∧ cd.list.length ≤ j + gk ∧ i = .int .i64 j ∧ GoSt w4 w4.heap.size (w4.heap.size + 1) [.slice (some ⟨g, 0, none⟩) m.codes.length vc4, .int .i64 m.libs, .int .i64 m.main] m.codes wr)
                  case atStart => exact ⟨0, by omega, by omega, rfl, HGW.out⟩
                  case round =>
                    rename World => wj
                    obtain ⟨j, hj, hgj, rfl, hgo2⟩ := hrel
                    have HGJ := Lib.hid hgo2
                    have hzj := hgo2.b.size
                    clear hgo2 HGW
                    by_cases hjl : j < cd.list.length
                    · obtain ⟨u, hri, hai⟩ := HGET2.out j cd.list[j] (List.getElem?_eq_getElem hjl)
                      have HOI := Lib.hid (HOK.out cd.list[j] (List.getElem_mem hjl))
                      have HYI := Lib.hid (HNM.out.2.2 cd.list[j] (List.getElem_mem hjl))
                      generalize cd.list[j] = ij at hri hai HOI HYI
                      obtain ⟨ua, uc, rfl⟩ := hai.len
                      have HRI := Lib.hid (show wj.rangeAt g2 (j * 11) [.int .i64 ij.op, .int .i64 ij.place, .string ij.x, .string ij.y, .string ij.a.name, .int .i64 ij.a.num, .string ij.b.name, .int .i64 ij.b.num, .slice ua ij.args.length uc, .int .i64 ij.to, .bool ij.has] from rangeAt_below hri HGJ.out.b hg2)
                      have hcap2 := HCAP2.out
                      obtain ⟨WJ, hWJ⟩ : ∃ W, wj.alloc (.cells [.int .i64 ij.op, .int .i64 ij.place, .string ij.x, .string ij.y, .string ij.a.name, .int .i64 ij.a.num, .string ij.b.name, .int .i64 ij.b.num, .slice ua ij.args.length uc, .int .i64 ij.to, .bool ij.has].toArray 43) = W := ⟨_, rfl⟩
                      have HGI := Lib.hid (show GoSt w4 w4.heap.size (w4.heap.size + 1) [.slice (some ⟨g, 0, none⟩) m.codes.length vc4, .int .i64 m.libs, .int .i64 m.main] m.codes WJ from hWJ ▸ HGJ.out.alloc _)
                      have HBI := Lib.hid (show Blk WJ wj.heap.size [.int .i64 ij.op, .int .i64 ij.place, .string ij.x, .string ij.y, .string ij.a.name, .int .i64 ij.a.num, .string ij.b.name, .int .i64 ij.b.num, .slice ua ij.args.length uc, .int .i64 ij.to, .bool ij.has] 43 from hWJ ▸ Blk.new wj [.int .i64 ij.op, .int .i64 ij.place, .string ij.x, .string ij.y, .string ij.a.name, .int .i64 ij.a.num, .string ij.b.name, .int .i64 ij.b.num, .slice ua ij.args.length uc, .int .i64 ij.to, .bool ij.has] 43)
                      have o0 : WJ.cell? ⟨wj.heap.size, 0, none⟩ = some (.int .i64 ij.op) := HBI.out.cell 0
                      have o3 : WJ.cell? ⟨wj.heap.size, 3, none⟩ = some (.string ij.y) := HBI.out.cell 3
                      clear hri hai
                      by_cases hop : ij.op = 12 ∨ ij.op = 13
                      · obtain ⟨k2, c2, hf2, hc2, hd2, hp2⟩ := resL_zero HOI.out hop
                        obtain ⟨pv2, lv2, hr2, hca2⟩ := HGET.out k2 c2 hc2
                        obtain ⟨pa2, pc2, rfl⟩ := hca2.1.slice
                        have HE1 := Lib.hid (show ∀ W : World, Below w4.heap.size w4 W → W.cell? ⟨g, k2 * 3 + 1, none⟩ = some (.slice pa2 ij.args.length pc2) from fun W hW => by rw [hW.cell (p := ⟨g, k2 * 3 + 1, none⟩) hg4, ← hp2]; exact hr2 1 _ rfl)
                        have hk2l : (k2 : Int) < (m.codes.length : Int) := by have := (List.getElem?_eq_some_iff.1 hc2).1; omega
                        have hk20 : (0 : Int) ≤ (k2 : Int) := by omega
                        have HF2 := Lib.hid hf2
                        have HD2 := Lib.hid hd2
                        clear hr2 hca2 hc2 hp2 hf2 hd2
                        rcases hop with hop | hop
                        · have hlb : libB (some k2) (m.libs : Int) = true := by show decide ((k2 : Int) < (m.libs : Int)) = true; have h := HD2.out; rw [hop] at h; simp at h ⊢; omega
                          have c1 : (ij.op != 12) = false := by simp [hop]
                          have c2 : (ij.op != 13) = true := by simp [hop]
                          have c3 : (ij.op == 12) = true := by simp [hop]
                          clear hop
                          go_wp2_with (first
                            | ((with_reducible refine at_ld 43 (.tmp 93) ?_); refine wpList_load_mid rfl 43 (.tmp 93) rfl g2 (j * 11) rfl [.int .i64 ij.op, .int .i64 ij.place, .string ij.x, .string ij.y, .string ij.a.name, .int .i64 ij.a.num, .string ij.b.name, .int .i64 ij.b.num, .slice ua ij.args.length uc, .int .i64 ij.to, .bool ij.has] _ HRI.out Tryd.underlying43 rfl Tryd.sizeInstr ?_)
                            | ((with_reducible refine at_st 43 (.tmp 21) ?_); refine wpList_store_new rfl 43 (.tmp 21) (.tmp 94) rfl [.int .i64 ij.op, .int .i64 ij.place, .string ij.x, .string ij.y, .string ij.a.name, .int .i64 ij.a.num, .string ij.b.name, .int .i64 ij.b.num, .slice ua ij.args.length uc, .int .i64 ij.to, .bool ij.has] (old := insCells ins0 (.slice none 0 0)) rfl rfl Tryd.sizeInstr rfl (insCells_one ij _ rfl) ?_)
                            | ((with_reducible refine at_ld 60 (.tmp 11) ?_); refine wpList_load_blk rfl 60 (.tmp 11) rfl w4.heap.size [.slice (some ⟨g, 0, none⟩) m.codes.length vc4, .int .i64 m.libs, .int .i64 m.main] rfl (by first | exact HGI.out.i | (rw [hWJ]; exact HGI.out.i)) Tryd.underlying60 rfl Tryd.sizeImage ?_))
                          first | refine calls_at WJ hWJ ?_ | skip
                          refine (find_any (HC5.out.below HGI.out.b) (m.libs : Int) (m.main : Int) ij.y).mono ?_
                          rintro e w9 ⟨rfl, hb9⟩
                          rw [HF2.out, hlb]
                          have HG9 := Lib.hid (HGI.out.below hb9)
                          have HBX := Lib.hid (HBI.out.stays hb9)
                          have p0 : w9.cell? ⟨wj.heap.size, 0, none⟩ = some (.int .i64 ij.op) := HBX.out.cell 0
                          have p8 : w9.cell? ⟨wj.heap.size, 8, none⟩ = some (.slice ua ij.args.length uc) := HBX.out.cell 8
                          have i0 : w9.cell? ⟨w4.heap.size, 0, none⟩ = some (.slice (some ⟨g, 0, none⟩) m.codes.length vc4) := HG9.out.i.cell 0
                          have e1 := HE1.out w9 HG9.out.b
                          have hcap := HCAP.out
                          clear hb9 o0 o3 hWJ
                          go_wp2_with fail
                          go_quiet (fail)
                          go_wp2_with fail
                          go_roundg (gk - 1)
                          case measure => omega
                          case rel => exact ⟨j + 1, by omega, by omega, by go_num, HG9.out.nq _⟩
                        · have hlb : libB (some k2) (m.libs : Int) = false := by show decide ((k2 : Int) < (m.libs : Int)) = false; have h := HD2.out; rw [hop] at h; simp at h ⊢; omega
                          have c1 : (ij.op != 12) = true := by simp [hop]
                          have c2 : (ij.op != 13) = false := by simp [hop]
                          have c3 : (ij.op == 12) = false := by simp [hop]
                          clear hop
                          go_wp2_with (first
                            | ((with_reducible refine at_ld 43 (.tmp 93) ?_); refine wpList_load_mid rfl 43 (.tmp 93) rfl g2 (j * 11) rfl [.int .i64 ij.op, .int .i64 ij.place, .string ij.x, .string ij.y, .string ij.a.name, .int .i64 ij.a.num, .string ij.b.name, .int .i64 ij.b.num, .slice ua ij.args.length uc, .int .i64 ij.to, .bool ij.has] _ HRI.out Tryd.underlying43 rfl Tryd.sizeInstr ?_)
                            | ((with_reducible refine at_st 43 (.tmp 21) ?_); refine wpList_store_new rfl 43 (.tmp 21) (.tmp 94) rfl [.int .i64 ij.op, .int .i64 ij.place, .string ij.x, .string ij.y, .string ij.a.name, .int .i64 ij.a.num, .string ij.b.name, .int .i64 ij.b.num, .slice ua ij.args.length uc, .int .i64 ij.to, .bool ij.has] (old := insCells ins0 (.slice none 0 0)) rfl rfl Tryd.sizeInstr rfl (insCells_one ij _ rfl) ?_)
                            | ((with_reducible refine at_ld 60 (.tmp 11) ?_); refine wpList_load_blk rfl 60 (.tmp 11) rfl w4.heap.size [.slice (some ⟨g, 0, none⟩) m.codes.length vc4, .int .i64 m.libs, .int .i64 m.main] rfl (by first | exact HGI.out.i | (rw [hWJ]; exact HGI.out.i)) Tryd.underlying60 rfl Tryd.sizeImage ?_))
                          first | refine calls_at WJ hWJ ?_ | skip
                          refine (find_any (HC5.out.below HGI.out.b) (m.libs : Int) (m.main : Int) ij.y).mono ?_
                          rintro e w9 ⟨rfl, hb9⟩
                          rw [HF2.out, hlb]
                          have HG9 := Lib.hid (HGI.out.below hb9)
                          have HBX := Lib.hid (HBI.out.stays hb9)
                          have p0 : w9.cell? ⟨wj.heap.size, 0, none⟩ = some (.int .i64 ij.op) := HBX.out.cell 0
                          have p8 : w9.cell? ⟨wj.heap.size, 8, none⟩ = some (.slice ua ij.args.length uc) := HBX.out.cell 8
                          have i0 : w9.cell? ⟨w4.heap.size, 0, none⟩ = some (.slice (some ⟨g, 0, none⟩) m.codes.length vc4) := HG9.out.i.cell 0
                          have e1 := HE1.out w9 HG9.out.b
                          have hcap := HCAP.out
                          clear hb9 o0 o3 hWJ
                          go_wp2_with fail
                          go_quiet (fail)
                          go_wp2_with fail
                          go_roundg (gk - 1)
                          case measure => omega
                          case rel => exact ⟨j + 1, by omega, by omega, by go_num, HG9.out.nq _⟩
                      · have h12 : (ij.op != 12) = true := by simp; omega
                        have h13 : (ij.op != 13) = true := by simp; omega
                        go_wp2_with (first
                          | ((with_reducible refine at_ld 43 (.tmp 93) ?_); refine wpList_load_mid rfl 43 (.tmp 93) rfl g2 (j * 11) rfl [.int .i64 ij.op, .int .i64 ij.place, .string ij.x, .string ij.y, .string ij.a.name, .int .i64 ij.a.num, .string ij.b.name, .int .i64 ij.b.num, .slice ua ij.args.length uc, .int .i64 ij.to, .bool ij.has] _ HRI.out Tryd.underlying43 rfl Tryd.sizeInstr ?_)
                          | ((with_reducible refine at_st 43 (.tmp 21) ?_); refine wpList_store_new rfl 43 (.tmp 21) (.tmp 94) rfl [.int .i64 ij.op, .int .i64 ij.place, .string ij.x, .string ij.y, .string ij.a.name, .int .i64 ij.a.num, .string ij.b.name, .int .i64 ij.b.num, .slice ua ij.args.length uc, .int .i64 ij.to, .bool ij.has] (old := insCells ins0 (.slice none 0 0)) rfl rfl Tryd.sizeInstr rfl (insCells_one ij _ rfl) ?_))
                        go_roundg (gk - 1)
                        case measure => omega
                        case rel => exact ⟨j + 1, by omega, by omega, by go_num, by first | exact HGI.out | (rw [hWJ]; exact HGI.out)⟩
                    · go_wp2_with fail
                      go_roundg (go - 1)
                      case measure => omega
                      case rel => exact ⟨k + 1, by omega, by omega, by go_num, HGJ.out⟩
              · have i0 : wr.cell? ⟨w4.heap.size, 0, none⟩ = some (.slice (some ⟨g, 0, none⟩) m.codes.length vc4) := HGO.out.i.cell 0
                have i1 : wr.cell? ⟨w4.heap.size, 1, none⟩ = some (.int .i64 m.libs) := HGO.out.i.cell 1
                have i2 : wr.cell? ⟨w4.heap.size, 2, none⟩ = some (.int .i64 m.main) := HGO.out.i.cell 2
                obtain ⟨pvm, lvm, hrm, _⟩ := HGET.out m.main cm HCM.out.1
                have em : wr.cell? ⟨g, m.main * 3, none⟩ = some (.string ⟨#[109, 97, 105, 110]⟩) := by
                  have h := (HGO.out.b.cell (p := ⟨g, m.main * 3 + 0, none⟩) hg4).trans (hrm 0 _ rfl)
                  rw [HCM.out.2] at h
                  exact h
                have hcap := HCAP.out
                have hmx : (m.main : Int) < (m.codes.length : Int) := by omega
                have hm0 : (0 : Int) ≤ (m.main : Int) := by omega
                have hmx1 : (m.libs : Int) ≤ (m.main : Int) := by omega
                have HB9 := Lib.hid (HB4.out.trans (HGO.out.b.mono HB4.out.size))
                clear hrm
                go_wp2_with fail
                go_ret
                exact ⟨rfl, HB9.out⟩
  · have herr : (ca = 0 ∧ (cb != 0) = true) ∨ (ca != 0) = true := by
      simp only [bne_iff_ne, ne_eq]
      by_cases h : ca = 0
      · exact .inl ⟨h, fun h' => hab ⟨h, h'⟩⟩
      · exact .inr h
    rcases herr with ⟨rfl, h2⟩ | h2
    all_goals
      go_wp2_with fail
      refine (wakes8_any _ HT3.out).mono ?_
      rintro e w5 ⟨rfl, hb5⟩
      have HB5 := Lib.hid (HB3.out.trans (hb5.mono HB3.out.size))
      clear hb5
      go_wp2_with fail
      go_ret
      exact ⟨rfl, HB5.out⟩

theorem linkGoes_reads (os : Os) {H : Type} (enc : TypeId × Value → H) : ∃ places, DataW.whole enc Tryd.prog ((laidWorld os).forCall (fun _ _ => 0) ⟨#[], #[.string ⟨#[]⟩, .string ⟨#[]⟩], []⟩).memory Tryd.f9.params.toList Rows.linkGoesSpec.vars false #[Value.string ⟨#[]⟩, Value.string ⟨#[]⟩].toList 8 = some ([.lit (.string []), .lit (.string [])], [], places) :=
  ⟨[], by kernel_rfl⟩

set_option maxRecDepth 100000 in
theorem linkGoes_lifted (os : Os) (started : os.Started) (H : Type) (enc : TypeId × Value → H) (F : Stop.Interp) :
    ReturnsInHanded {} Tryd.checked os 9 .any ((OpenSpec.ofChange Rows.linkGoesSpec).preRow enc Tryd.prog Tryd.f9 Rows.linkGoesRow.domain false Rows.linkGoesRow.laid) (((OpenSpec.ofChange Rows.linkGoesSpec).at F).post enc Tryd.prog Tryd.f9 false true false false) := by
  obtain ⟨places, hx⟩ := linkGoes_reads os enc
  refine returnsInHanded_of_row (C := Tryd.checked) (s := OpenSpec.ofChange Rows.linkGoesSpec) own started (by kernel_rfl) Tryd.func9
    (witness_row_at (enc := enc) (C := Tryd.checked) false (laidWorld os) #[.string ⟨#[]⟩, .string ⟨#[]⟩] rfl (by kernel_rfl) (by kernel_rfl) (by kernel_rfl)
      (OpenSpec.preRow_of_cond 8 hx (by kernel_rfl) (fun k hk => by cases hk) (by kernel_rfl) (laid_met_texts os))) ?_
  intro W base args ds gs before hval hW _ _ hreach hL _ _
  exact texts_contract Tryd.params9 (by kernel_rfl) rfl (fun _ _ => rfl) linkGoes_walk W base args ds gs before hval hW hreach hL

theorem linkGoes_said : Rows.LinkGoesSaid :=
  OpenClaim.holds_of_cond 9 Tryd.f9 rfl rfl rfl rfl rfl rfl rfl ⟨rfl, rfl, rfl, rfl, rfl⟩ rfl rfl rfl rfl rfl (by kernel_rfl) Tryd.func9 (by kernel_rfl)
    (of_decide_eq_true (by kernel_rfl)) (by unfold Func.isWrapper; first | (rw [if_pos (by decide +kernel)]; kernel_rfl) | (rw [if_neg (by decide +kernel)]; exact ⟨rfl, rfl⟩))
    (fun os started H enc _ F => by rw [OpenClaim.pre_eq_preRow]; exact linkGoes_lifted os started H enc F)

theorem linkGoes_plain (f : FuncId) (fn : Func) (hf : Tryd.pinned.checked.prog.funcNamed "lychgate/lychgatelaw08.LinkGoes" = some f) (hfn : Tryd.pinned.checked.prog.funcs[f]? = some fn) :
    true = Tryd.pinned.checked.prog.looks [] ∧ ∀ (j : Nat) t, fn.params[j]? = some t → Tryd.pinned.checked.prog.wantsStandIn t = false := by
  obtain rfl : f = 9 := Option.some.inj ((show Tryd.prog.funcNamed "lychgate/lychgatelaw08.LinkGoes" = some 9 by kernel_rfl).symm.trans hf) |>.symm
  obtain rfl : fn = Tryd.f9 := (Option.some.inj (Tryd.func9.symm.trans hfn)).symm
  refine ⟨by kernel_rfl, fun j t ht => ?_⟩
  rw [Tryd.params9] at ht
  obtain rfl : t = 9 := by simpa using Array.mem_of_getElem? ht
  exact (show Tryd.prog.wantsStandIn 9 = false by kernel_rfl)

theorem linkGoes_card : Rows.LinkGoesCardSaid :=
  Claim7.holds_tied_plain_at .later [] _ _ _ _ linkGoes_said (fun _ h => by cases h) (by kernel_rfl) (fun _ h => by cases h) linkGoes_row_tie rfl ⟨rfl, rfl⟩ (by kernel_rfl) rfl linkGoes_plain (by kernel_rfl)

end Go.Proofs.YtnmpfpnldcgbaaaDoor
