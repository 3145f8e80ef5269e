/- The reader of types in memory; the contract of shape's of. -/
import Derived.Test.YtdkdidgeaalcgaaDoorShpE
namespace Go.Proofs.YtdkdidgeaalcgaaDoor
open Go.RowKit Go.Maps

/- The reader: the types that are read, the map of their names. -/
structure RdSt (w : World) (B R M : Nat) (tys : List Ty) (tv : Value) : Prop where
  l : Blk w R [tv, .map (some M)] 87
  t : TysAt w tys (fun b => B ≤ b ∧ b ≠ R ∧ b ≠ M) tv
  m : MapAt w M tys
  lo : B ≤ R ∧ B ≤ M
  ne : R ≠ M
theorem RdSt.below {w w' : World} {B R M : Nat} {tys : List Ty} {tv : Value} (h : RdSt w B R M tys tv) (hb : Below w.heap.size w w') : RdSt w' B R M tys tv := ⟨h.l.stays hb, h.t.below hb, h.m.below hb, h.lo, h.ne⟩

theorem pt_sort {w : World} {g : Nat} {p : Pt} {sv fv cv : Value} (h : Blk w g (ptCells p sv fv cv) 93) : w.rangeAt g 0 (nodeCells p.sort sv) := fun j v hj => by
  rw [Nat.zero_add, h.cell j]
  match j, hj with
  | 0, hj | 1, hj | 2, hj | 3, hj | 4, hj => exact hj
  | j + 5, hj => simp [nodeCells] at hj

theorem ofP_field {tys : List Ty} {p : Pt} {srt : Int} (hs : (srt == 2 || srt == 3) = true) : ofP tys p srt = match numF p.fields (kidN p.sort 0).text with | none => .error (p.sort.place, 32) | some i => .ok (i : Int) := by unfold ofP; rw [hs]; rfl
theorem ofP_none {tys : List Ty} {p : Pt} {srt : Int} (hs : (srt == 2 || srt == 3) = false) (h4 : (srt == 4) = false) : ofP tys p srt = .ok 0 := by unfold ofP; rw [hs, h4]; rfl
theorem ofP_guard {tys : List Ty} {p : Pt} : ofP tys p 4 = match fndY tys (kidN p.sort 0).text with
    | none => .error (p.sort.place, 31)
    | some k => bif (tys[k]?.map (·.sort)).getD 0 != 3 then .error (p.sort.place, 31) else bif !p.fields.isEmpty || !p.facts.isEmpty then .error (p.sort.place, 32) else .ok (k : Int) := rfl

set_option maxRecDepth 100000 in
set_option maxHeartbeats 2000000 in
theorem of_any {w : World} {B R M : Nat} {tys : List Ty} {tv : Value} (hr : RdSt w B R M tys tv) {p : Pt} {sv fv cv : Value} (h : PtAt w p sv fv cv) (hz : (kidN p.sort 0).text.size ≤ maxLen) (srt : Int) :
    Calls Tryd.prog 39 #[.pointer (some ⟨R, 0, none⟩), PtV p sv fv cv, .int .i64 srt] w (EPost VInt w (ofP tys p srt)) := by
  have HP := Lib.hid h
  have HRD := Lib.hid hr
  obtain ⟨A, cap, rfl, hcap, hcm, _⟩ := h.f
  obtain ⟨A2, cap2, rfl, hcap2, hcm2, _⟩ := h.c
  obtain ⟨W0, hW0⟩ : ∃ W, w.alloc (.cells (ptCells p sv (.slice A p.fields.length cap) (.slice A2 p.facts.length cap2)).toArray 93) = W := ⟨_, rfl⟩
  have HB0 := Lib.hid (show Below w.heap.size w W0 from hW0 ▸ (Below.refl _ _).alloc (Nat.le_refl _) _)
  have HQ := Lib.hid (show Blk W0 w.heap.size (ptCells p sv (.slice A p.fields.length cap) (.slice A2 p.facts.length cap2)) 93 from hW0 ▸ Blk.new w _ _)
  have HFR := Lib.hid (pt_sort HQ.out)
  have hfn := fldNode1
  have HKN := Lib.hid (kidOf_any (t := p.sort) (h.s.below HB0.out) 0)
  unfold ptCells at hW0
  unfold PtV
  clear h hr
  go_enter Tryd.func39, Tryd.ntmps39
  go_wp2_with ((with_reducible refine at_ld 39 (.tmp 11) ?_); refine wpList_load_mid rfl 39 (.tmp 11) rfl w.heap.size 0 rfl (nodeCells p.sort sv) _ HFR.out Tryd.underlying39 rfl Tryd.sizeNode ?_)
  try rw [hW0]
  clear hW0
  refine HKN.out.mono ?_
  rintro e w1 ⟨u, rfl, _, hb⟩
  have HB1 := Lib.hid (HB0.out.trans (hb.mono HB0.out.size))
  have HQ1 := Lib.hid (HQ.out.stays hb)
  have HR1 := Lib.hid (HRD.out.below HB1.out)
  clear hb HFR HKN HB0 HQ
  unfold NodeV
  go_upto_region 2 with fail
  have q4 := HQ1.out
  have p5 : w1.cell? ⟨w.heap.size, 5, none⟩ = some (.slice A p.fields.length cap) := q4.cell 5
  have p6 : w1.cell? ⟨w.heap.size, 6, none⟩ = some (.slice A2 p.facts.length cap2) := q4.cell 6
  cases hs : srt == 2 || srt == 3
  · cases h4 : srt == 4
    · obtain ⟨hs2, hs3⟩ := Bool.or_eq_false_iff.1 hs
      have HR := Lib.hid (ofP_none (tys := tys) (p := p) hs h4)
      go_wp2_with fail
      go_ret
      exact EPost.ok HR.out rfl HB1.out
    · obtain rfl : srt = 4 := beq_iff_eq.1 h4
      have HG := Lib.hid (ofP_guard (tys := tys) (p := p))
      obtain ⟨c, hc, hlk⟩ := HR1.out.m.look hz
      replace hlk := hlk w1 rfl
      have l0 : w1.cell? ⟨R, 0, none⟩ = some tv := HR1.out.l.cell 0
      have l1 : w1.cell? ⟨R, 1, none⟩ = some (.map (some M)) := HR1.out.l.cell 1
      clear hs h4
      cases hf : fndY tys (kidN p.sort 0).text with
      | none =>
        rw [hf] at hlk
        have HR := Lib.hid (HG.out.trans (by rw [hf]))
        have HFA := Lib.hid (failAt_any p.sort sv 31 w1)
        unfold NodeV at HFA
        have hfr := pt_sort q4
        go_wp2_with ((with_reducible refine at_ld 39 (.tmp 52) ?_); refine wpList_load_mid rfl 39 (.tmp 52) rfl w.heap.size 0 rfl (nodeCells p.sort sv) _ hfr Tryd.underlying39 rfl Tryd.sizeNode ?_)
        refine HFA.out.mono ?_
        rintro e w3 ⟨rfl, hb⟩
        go_wp2_with fail
        exact ⟨rfl, EPost.err HR.out (HB1.out.trans (hb.mono HB1.out.size))⟩
      | some k =>
        rw [hf] at hlk
        obtain rfl := hc k hf
        have hkl := fndF_lt hf
        obtain ⟨g2, cp2, rfl, hg2, hcp2, hcm3, hget⟩ := (HR1.out.t.form).resolve_left fun h => by rw [h.2] at hkl; simp at hkl
        obtain ⟨ty, hty⟩ : ∃ ty, tys[k]? = some ty := ⟨_, List.getElem?_eq_getElem hkl⟩
        obtain ⟨pv, lv, hra, _⟩ := hget k ty hty
        have e1 : w1.cell? ⟨g2, k * 5 + 1, none⟩ = some (.int .i64 ty.sort) := hra 1 _ rfl
        have hk1 : (k : Int) < (tys.length : Int) := by omega
        have HR0 := Lib.hid (HG.out.trans (show _ = (bif ty.sort != 3 then .error (p.sort.place, 31) else bif !p.fields.isEmpty || !p.facts.isEmpty then .error (p.sort.place, 32) else .ok (k : Int) : E Int) by rw [hf]; simp only [hty, Option.map_some, Option.getD_some]))
        clear hget hra hty hf
        unfold maxLen at hcm3
        generalize ty.sort = so at e1 HR0
        cases hso : so != 3
        · rw [hso] at HR0
          have HL1 := Lib.hid (isEmpty_len p.fields)
          have HL2 := Lib.hid (isEmpty_len p.facts)
          generalize p.fields.length = nf at *
          generalize p.facts.length = nc at *
          cases hl1 : decide ((0 : Int) < (nf : Int))
          · have hl1' : decide (0 < nf) = false := by simpa using hl1
            cases hl2 : decide ((0 : Int) < (nc : Int))
            · have hl2' : decide (0 < nc) = false := by simpa using hl2
              have HR := Lib.hid (HR0.out.trans (by rw [HL1.out, HL2.out, hl1, hl2]; try rfl))
              go_wp2_with fail
              go_ret
              exact EPost.ok HR.out rfl HB1.out
            · have hl2' : decide (0 < nc) = true := by simpa using hl2
              have HR := Lib.hid (HR0.out.trans (by rw [HL1.out, HL2.out, hl1, hl2]; try rfl))
              have HFA := Lib.hid (failAt_any p.sort sv 32 w1)
              unfold NodeV at HFA
              have hfr := pt_sort q4
              go_wp2_with ((with_reducible refine at_ld 39 (.tmp 65) ?_); refine wpList_load_mid rfl 39 (.tmp 65) rfl w.heap.size 0 rfl (nodeCells p.sort sv) _ hfr Tryd.underlying39 rfl Tryd.sizeNode ?_)
              refine HFA.out.mono ?_
              rintro e w3 ⟨rfl, hb⟩
              go_wp2_with fail
              exact ⟨rfl, EPost.err HR.out (HB1.out.trans (hb.mono HB1.out.size))⟩
          · have hl1' : decide (0 < nf) = true := by simpa using hl1
            have HR := Lib.hid (HR0.out.trans (by rw [HL1.out, hl1]; try rfl))
            have HFA := Lib.hid (failAt_any p.sort sv 32 w1)
            unfold NodeV at HFA
            have hfr := pt_sort q4
            go_wp2_with ((with_reducible refine at_ld 39 (.tmp 65) ?_); refine wpList_load_mid rfl 39 (.tmp 65) rfl w.heap.size 0 rfl (nodeCells p.sort sv) _ hfr Tryd.underlying39 rfl Tryd.sizeNode ?_)
            refine HFA.out.mono ?_
            rintro e w3 ⟨rfl, hb⟩
            go_wp2_with fail
            exact ⟨rfl, EPost.err HR.out (HB1.out.trans (hb.mono HB1.out.size))⟩
        · rw [hso] at HR0
          have HR := Lib.hid (HR0.out.trans (by rfl))
          have HFA := Lib.hid (failAt_any p.sort sv 31 w1)
          unfold NodeV at HFA
          have hfr := pt_sort q4
          go_wp2_with ((with_reducible refine at_ld 39 (.tmp 52) ?_); refine wpList_load_mid rfl 39 (.tmp 52) rfl w.heap.size 0 rfl (nodeCells p.sort sv) _ hfr Tryd.underlying39 rfl Tryd.sizeNode ?_)
          refine HFA.out.mono ?_
          rintro e w3 ⟨rfl, hb⟩
          go_wp2_with fail
          exact ⟨rfl, EPost.err HR.out (HB1.out.trans (hb.mono HB1.out.size))⟩
  · have HOF := Lib.hid (ofP_field (tys := tys) (p := p) hs)
    have HNU := Lib.hid (snum_any (p := p) (sv := sv) (cv := .slice A2 p.facts.length cap2) (HP.out.below HB1.out).f (kidN p.sort 0).text)
    unfold PtV at HNU
    have hsw : (srt == 2) = true ∨ ((srt == 2) = false ∧ (srt == 3) = true) := by
      cases h2 : srt == 2
      · rw [h2] at hs; exact .inr ⟨rfl, by simpa using hs⟩
      · exact .inl rfl
    rcases hsw with h2 | ⟨h2, h3⟩
    all_goals
      go_wp2_with ((with_reducible refine at_ld 93 (.tmp 4) ?_); refine wpList_load_blk rfl 93 (.tmp 4) rfl w.heap.size (ptCells p sv (.slice A p.fields.length cap) (.slice A2 p.facts.length cap2)) rfl q4 Tryd.underlying93 rfl Tryd.sizeParts ?_)
      refine HNU.out.mono ?_
      rintro e w2 ⟨rfl, hb⟩
      have HB2 := Lib.hid (HB1.out.trans (hb.mono HB1.out.size))
      have q5 := HQ1.out.stays hb
      have hfr := pt_sort q5
      clear hb
      cases hn : numF p.fields (kidN p.sort 0).text with
      | none =>
        have HR := Lib.hid (HOF.out.trans (by rw [hn]))
        have HFA := Lib.hid (failAt_any p.sort sv 32 w2)
        unfold NodeV at HFA
        simp only [oi]
        go_wp2_with ((with_reducible refine at_ld 39 (.tmp 24) ?_); refine wpList_load_mid rfl 39 (.tmp 24) rfl w.heap.size 0 rfl (nodeCells p.sort sv) _ hfr Tryd.underlying39 rfl Tryd.sizeNode ?_)
        refine HFA.out.mono ?_
        rintro e w3 ⟨rfl, hb⟩
        go_wp2_with fail
        exact ⟨rfl, EPost.err HR.out (HB2.out.trans (hb.mono HB2.out.size))⟩
      | some k =>
        have HR := Lib.hid (HOF.out.trans (by rw [hn]))
        have hne : ((k : Int) == -1) = false := by simp
        simp only [oi]
        go_wp2_with fail
        go_ret
        exact EPost.ok HR.out rfl HB2.out

end Go.Proofs.YtdkdidgeaalcgaaDoor
