/- Proved here: for every two texts that lychgatelaw11.ShapeFirst is called with, in every memory in which lex's tables stand as the program's text lays them, the call returns true and the texts read as before. Conditions: the package-level tables lex.keys, lex.blanks and lex.pairs hold what their initialisers lay (the card ties them to the program's text). -/
import Derived.Test.YtdkdidgeaalcgaaDoorWakesS
import Derived.Test.YtdkdidgeaalcgaaDoorShpJ
import Derived.Test.YtdkdidgeaalcgaaDoorP19
namespace Go.Proofs.YtdkdidgeaalcgaaDoor
open Go.ChangeShapes Go.WideShapes Go.ChangeAt Go.ChangeMaps Go.RowKit

def CodeOk {α : Type} (r : E α) : Prop := ∀ p c, r = .error (p, c) → 22 ≤ c ∧ c ≤ 33
theorem code_ok {α : Type} (a : α) : CodeOk (.ok a : E α) := fun p c h => by cases h
theorem code_err {α : Type} {q : Nat} {d : Int} (h : 22 ≤ d ∧ d ≤ 33) : CodeOk (.error (q, d) : E α) := fun p c e => by cases e; exact h
theorem code_pre {α : Type} {l : List α} {r : E (List α)} (h : CodeOk r) : CodeOk (pre l r) := fun p c e => by
  cases r with
  | ok a => cases e
  | error q => exact h p c (by simpa [pre] using e)
theorem fld_code {fs : List T} {srt : Int} {n : T} : CodeOk (fldP fs srt n) := by
  unfold fldP sizeP
  cases n.kids.isEmpty
  · cases (srt != 0 || (numF fs (kidN n 0).text).isNone)
    · exact code_ok _
    · exact code_err (by decide)
  · exact code_ok _
theorem flds_code {fs : List T} {srt : Int} : ∀ (l : List T) (i : Nat), CodeOk (fldsF fs srt i l)
  | [], i => code_ok _
  | n :: r, i => by
    rw [fldsF]
    cases (fndT (List.take i fs) n.text).isSome
    · simp only [cond_false]
      cases h : fldP fs srt n with
      | error e => obtain ⟨p, c⟩ := e; exact code_err (fld_code p c h)
      | ok z => exact code_pre (flds_code r (i + 1))
    · exact code_err (by decide)
theorem of_code {tys : List Ty} {p : Pt} {srt : Int} : CodeOk (ofP tys p srt) := by
  unfold ofP
  cases (srt == 2 || srt == 3)
  · cases srt == 4
    · exact code_ok _
    · simp only [cond_false, cond_true]
      cases fndY tys (kidN p.sort 0).text with
      | none => exact code_err (by decide)
      | some k =>
        simp only
        cases (tys[k]?.map (·.sort)).getD 0 != 3
        · cases (!p.fields.isEmpty || !p.facts.isEmpty)
          · exact code_ok _
          · exact code_err (by decide)
        · exact code_err (by decide)
  · simp only [cond_true]
    cases numF p.fields (kidN p.sort 0).text with
    | none => exact code_err (by decide)
    | some k => exact code_ok _
theorem facts_code {fs : List T} {srt of : Int} : ∀ l : List T, CodeOk (factsF fs srt of l)
  | [] => code_ok _
  | n :: r => by
    rw [factsF]
    cases h : factF fs srt of n with
    | error e =>
      obtain ⟨p, c⟩ := e
      unfold factF at h
      split at h
      · cases h
      · cases h; exact code_err (by decide)
    | ok l => exact code_pre (facts_code r)
theorem one_code {tys : List Ty} {n : T} : CodeOk (oneP tys n) := by
  unfold oneP
  cases (fndY tys n.text).isSome
  · cases decide (8 < (ptOf n.kids).fields.length)
    · simp only [cond_false]
      cases h1 : fldsF (ptOf n.kids).fields (sortN (ptOf n.kids).sort.text) 0 (ptOf n.kids).fields with
      | error e => obtain ⟨p, c⟩ := e; exact code_err (flds_code _ _ p c h1)
      | ok fl =>
        simp only
        cases h2 : ofP tys (ptOf n.kids) (sortN (ptOf n.kids).sort.text) with
        | error e => obtain ⟨p, c⟩ := e; exact code_err (of_code p c h2)
        | ok o =>
          simp only
          cases h3 : factsF (ptOf n.kids).fields (sortN (ptOf n.kids).sort.text) o (ptOf n.kids).facts with
          | error e => obtain ⟨p, c⟩ := e; exact code_err (facts_code _ p c h3)
          | ok fc => exact code_ok _
    · exact code_err (by decide)
  · exact code_err (by decide)
theorem types_code : ∀ (l : List T) (tys : List Ty), CodeOk (typesF tys l)
  | [], tys => code_ok _
  | n :: r, tys => by
    rw [typesF]
    cases n.kind == 1
    · exact types_code r tys
    · simp only [cond_true]
      cases h : oneP tys n with
      | error e => obtain ⟨p, c⟩ := e; exact code_err (one_code p c h)
      | ok x => exact types_code r _

set_option maxRecDepth 100000 in
set_option maxHeartbeats 2000000 in
theorem shapeFirst_walk (a b : ByteArray) (w : World) (hsa : a.size ≤ maxLen) (_ : b.size ≤ maxLen) (hla : a.size ≤ 140737488351232) (hlb : b.size ≤ 140737488351232) (ht : Tabs w) :
    Calls Tryd.prog 6 #[.string a, .string b] w fun e w' => e = .returned (.bool true) ∧ Below w.heap.size w w' := by
  have HT := Lib.hid ht
  cases hq : parseB a with
  | mk t1 q1 =>
  obtain ⟨p1, c1⟩ := q1
  cases hq2 : parseB (joinB a b) with
  | mk t2 q2 =>
  obtain ⟨p2, c2⟩ := q2
  have HQ1 := Lib.hid hq
  have HQ2 := Lib.hid hq2
  have HD1 := Lib.hid (show Declared t1 ∧ t1.size ≤ 4096 from by have h1 := parse_declared a; have h2 := (parse_good a).2; rw [hq] at h1 h2; exact ⟨h1, h2⟩)
  have HD2 := Lib.hid (show Declared t2 ∧ t2.size ≤ 4096 from by have h1 := parse_declared (joinB a b); have h2 := (parse_good (joinB a b)).2; rw [hq2] at h1 h2; exact ⟨h1, h2⟩)
  have HJS := Lib.hid (show (joinB a b).size ≤ maxLen from by rw [joinB_size]; unfold maxLen; omega)
  clear hq hq2 ht
  go_enter Tryd.func6, Tryd.ntmps6
  go_wp2_with fail
  refine (parse_any a w hsa HT.out).mono ?_
  rw [HQ1.out]
  rintro e w1 ⟨k1, rfl, hk, hb⟩
  obtain ⟨W1, hW1⟩ : ∃ W, w1.alloc (.cells (nodeCells t1 k1).toArray 39) = W := ⟨_, rfl⟩
  have hb1 : Below w1.heap.size w1 W1 := hW1 ▸ (Below.refl _ _).alloc (Nat.le_refl _) _
  have HB1 := Lib.hid (hb.trans (hb1.mono hb.size))
  have HN1 := Lib.hid (show Blk W1 w1.heap.size (nodeCells t1 k1) 39 from hW1 ▸ Blk.new w1 _ _)
  have HK1 := Lib.hid (show KAt 39 W1 t1.kids (fun b => w.heap.size ≤ b) k1 from (show KAt 39 w1 t1.kids _ k1 from hk).below hb1)
  have HO1 := Lib.hid HK1.out.one
  have HT1 := Lib.hid (HT.out.below HB1.out HT.out.size)
  have HPJ := Lib.hid (parse_any (joinB a b) W1 HJS.out HT1.out)
  unfold joinB at HPJ
  clear hk hb hb1
  unfold NodeV
  go_wp2_with ((with_reducible refine at_st 39 (.tmp 5) ?_); refine wpList_store_new rfl 39 (.tmp 5) (.tmp 21) rfl (nodeCells t1 k1) (old := zeroNodeCells) rfl rfl Tryd.sizeNode rfl (nodeCells_one _ _ HO1.out) ?_; rw [hW1])
  refine HPJ.out.mono ?_
  clear HPJ hW1
  rw [show parseB (a ++ ⟨#[10]⟩ ++ b) = (t2, p2, c2) from HQ2.out]
  rintro e w2 ⟨k2, rfl, hk, hb⟩
  obtain ⟨W2, hW2⟩ : ∃ W, w2.alloc (.cells (nodeCells t2 k2).toArray 39) = W := ⟨_, rfl⟩
  have hb1 : Below w2.heap.size w2 W2 := hW2 ▸ (Below.refl _ _).alloc (Nat.le_refl _) _
  have hb12 := hb.trans (hb1.mono hb.size)
  have HB2 := Lib.hid (HB1.out.trans (hb12.mono HB1.out.size))
  have HN2 := Lib.hid (HN1.out.stays hb12)
  have HM2 := Lib.hid (show Blk W2 w2.heap.size (nodeCells t2 k2) 39 from hW2 ▸ Blk.new w2 _ _)
  have HK2 := Lib.hid (HK1.out.below hb12)
  have HL2 := Lib.hid (show KAt 39 W2 t2.kids (fun b => W1.heap.size ≤ b) k2 from (show KAt 39 w2 t2.kids _ k2 from hk).below hb1)
  have HO2 := Lib.hid HL2.out.one
  have HT2 := Lib.hid (HT.out.below HB2.out HT.out.size)
  have HWK := Lib.hid (wakes11_any W2 HT2.out)
  clear hk hb hb1 hb12 HK1 HN1
  unfold NodeV
  go_wp2_with ((with_reducible refine at_st 39 (.tmp 8) ?_); refine wpList_store_new rfl 39 (.tmp 8) (.tmp 30) rfl (nodeCells t2 k2) (old := zeroNodeCells) rfl rfl Tryd.sizeNode rfl (nodeCells_one _ _ HO2.out) ?_; rw [hW2])
  clear hW2
  refine HWK.out.mono ?_
  rintro e w3 ⟨rfl, hb⟩
  have HB3 := Lib.hid (HB2.out.trans (hb.mono HB2.out.size))
  have HN3 := Lib.hid (HN2.out.stays hb)
  have HM3 := Lib.hid (HM2.out.stays hb)
  have HK3 := Lib.hid (HK2.out.below hb)
  have HL3 := Lib.hid (HL2.out.below hb)
  have HT3 := Lib.hid (HT.out.below HB3.out HT.out.size)
  have HWK3 := Lib.hid (wakes11_any w3 HT3.out)
  obtain ⟨x1, y1, rfl⟩ := HK3.out.len
  obtain ⟨x2, y2, rfl⟩ := HL3.out.len
  have n4 : w3.cell? ⟨w1.heap.size, 4, none⟩ = some (.slice x1 t1.kids.length y1) := HN3.out.cell 4
  have m4 : w3.cell? ⟨w2.heap.size, 4, none⟩ = some (.slice x2 t2.kids.length y2) := HM3.out.cell 4
  clear hb HWK HB2 HN2 HM2 HK2 HL2
  by_cases hc1 : c1 = 0
  · by_cases hc2 : c2 = 0
    · obtain rfl := hc1
      obtain rfl := hc2
      obtain ⟨ys, hys⟩ := parse_ext HQ1.out HQ2.out
      have hll : ¬ (t2.kids.length : Int) < (t1.kids.length : Int) := by rw [hys]; simp; omega
      have HYS := Lib.hid hys
      clear hys
      have hn3 := HN3.out
      have HTY := Lib.hid (types_any HK3.out HD1.out.1 HD1.out.2)
      unfold NodeV at HTY
      go_wp2_with ((with_reducible refine at_ld 39 (.tmp 5) ?_); refine wpList_load_blk rfl 39 (.tmp 5) rfl w1.heap.size (nodeCells t1 (.slice x1 t1.kids.length y1)) rfl hn3 Tryd.underlying39 rfl Tryd.sizeNode ?_)
      refine HTY.out.mono ?_
      intro e w4 hp
      unfold TypesPost at hp
      have HAP := Lib.hid (show typesF [] t2.kids = match typesF [] t1.kids with | .error e => .error e | .ok t => typesF t ys from by rw [HYS.out]; exact typesF_append _)
      have HCD := Lib.hid (types_code t1.kids [])
      have HCD2 := Lib.hid (types_code t2.kids [])
      clear n4 m4 hll hn3 HTY
      cases hr1 : typesF [] t1.kids with
      | error pc =>
        obtain ⟨q, c⟩ := pc
        rw [hr1] at hp HAP
        obtain ⟨rfl, hb⟩ := hp
        have hcc := HCD.out q c hr1
        have hne : (c != 0) = true := by rw [bne_iff_ne]; omega
        have HB4 := Lib.hid (HB3.out.trans (hb.mono HB3.out.size))
        have hm4 := HM3.out.stays hb
        have HTZ := Lib.hid (types_any (HL3.out.below hb) HD2.out.1 HD2.out.2)
        unfold NodeV at HTZ
        clear hb hr1 hcc
        go_wp2_with ((with_reducible refine at_ld 39 (.tmp 8) ?_); refine wpList_load_blk rfl 39 (.tmp 8) rfl w2.heap.size (nodeCells t2 (.slice x2 t2.kids.length y2)) rfl hm4 Tryd.underlying39 rfl Tryd.sizeNode ?_)
        refine HTZ.out.mono ?_
        intro e w5 hp
        unfold TypesPost at hp
        rw [HAP.out] at hp
        obtain ⟨rfl, hb⟩ := hp
        have HB5 := Lib.hid (HB4.out.trans (hb.mono HB4.out.size))
        clear hb hm4 HTZ
        go_wp2_with fail
        go_ret
        exact ⟨rfl, HB5.out⟩
      | ok tys =>
        rw [hr1] at hp HAP
        obtain ⟨v, rfl, hv, hb⟩ := hp
        have HV4 := Lib.hid hv
        have HB4 := Lib.hid (HB3.out.trans (hb.mono HB3.out.size))
        have hm4 := HM3.out.stays hb
        have HTZ := Lib.hid (types_any (HL3.out.below hb) HD2.out.1 HD2.out.2)
        unfold NodeV at HTZ
        obtain ⟨va, vc, rfl⟩ := hv.slice
        clear hb hr1 hv
        go_wp2_with ((with_reducible refine at_ld 39 (.tmp 8) ?_); refine wpList_load_blk rfl 39 (.tmp 8) rfl w2.heap.size (nodeCells t2 (.slice x2 t2.kids.length y2)) rfl hm4 Tryd.underlying39 rfl Tryd.sizeNode ?_)
        refine HTZ.out.mono ?_
        intro e w5 hp
        unfold TypesPost at hp
        cases hr2 : typesF [] t2.kids with
        | error pc =>
          obtain ⟨q, c⟩ := pc
          rw [hr2] at hp
          obtain ⟨rfl, hb⟩ := hp
          have hcc := HCD2.out q c hr2
          have hne : (c != 0) = true := by rw [bne_iff_ne]; omega
          have HB5 := Lib.hid (HB4.out.trans (hb.mono HB4.out.size))
          clear hb hm4 HTZ hr2 hcc
          go_wp2_with fail
          go_ret
          exact ⟨rfl, HB5.out⟩
        | ok tys2 =>
          rw [hr2] at hp
          obtain ⟨v2, rfl, hv2, hb⟩ := hp
          have HB5 := Lib.hid (HB4.out.trans (hb.mono HB4.out.size))
          have HV5 := Lib.hid (HV4.out.below hb)
          have HU5 := Lib.hid hv2
          obtain ⟨ub, uc, rfl⟩ := hv2.slice
          obtain ⟨zs, hzs⟩ : ∃ zs, tys2 = tys ++ zs := typesF_ext ys (HAP.out.symm.trans hr2)
          have HZS := Lib.hid hzs
          have HLE := Lib.hid (show tys.length ≤ tys2.length from by rw [hzs]; simp)
          clear hb hm4 HTZ hr2 hv2 hzs
          go_wp2_with fail
          go_loopw [82] (fun i wr => ∃ k : Nat, k ≤ tys.length ∧ i = .int .i64 k ∧ Below w5.heap.size w5 wr) (fun i _ => tys.length - (intOf i).toNat)
          case atStart => exact ⟨0, by omega, rfl, Below.refl _ _⟩
          case round =>
            obtain ⟨k, hkk, rfl, hbw⟩ := hrel
            by_cases hlt : k < tys.length
            · have hle := HLE.out
              obtain ⟨x, hx⟩ : ∃ x, tys[k]? = some x := ⟨_, List.getElem?_eq_getElem hlt⟩
              have hx2 : tys2[k]? = some x := by rw [HZS.out, List.getElem?_append_left hlt]; exact hx
              obtain ⟨g, cp, hg0, hg1, hg2, hg3, hget⟩ := (HV5.out.form).resolve_left fun h => by rw [h.2] at hlt; simp at hlt
              obtain ⟨rfl, rfl⟩ : va = some ⟨g, 0, none⟩ ∧ vc = cp := by simpa using hg0
              obtain ⟨g', cp', hg0', hg1', hg2', hg3', hget'⟩ := (HU5.out.form).resolve_left fun h => by rw [h.2] at hx2; simp at hx2
              obtain ⟨rfl, rfl⟩ : ub = some ⟨g', 0, none⟩ ∧ uc = cp' := by simpa using hg0'
              obtain ⟨pv, lv, hr, hty⟩ := hget k x hx
              obtain ⟨pv', lv', hr', hty'⟩ := hget' k x hx2
              obtain ⟨f1, f2, rfl⟩ := RAt.slice hty.2
              obtain ⟨f1', f2', rfl⟩ := RAt.slice hty'.2
              have hrr := rangeAt_below hr hbw hg1.2
              have hrr' := rangeAt_below hr' hbw hg1'.2
              have e0 : wr.cell? ⟨g, k * 5, none⟩ = some (.string x.name) := hrr 0 _ rfl
              have e1 : wr.cell? ⟨g, k * 5 + 1, none⟩ = some (.int .i64 x.sort) := hrr 1 _ rfl
              have e4 : wr.cell? ⟨g, k * 5 + 4, none⟩ = some (.slice f1 x.facts.length f2) := hrr 4 _ rfl
              have e0' : wr.cell? ⟨g', k * 5, none⟩ = some (.string x.name) := hrr' 0 _ rfl
              have e1' : wr.cell? ⟨g', k * 5 + 1, none⟩ = some (.int .i64 x.sort) := hrr' 1 _ rfl
              have e4' : wr.cell? ⟨g', k * 5 + 4, none⟩ = some (.slice f1' x.facts.length f2') := hrr' 4 _ rfl
              have HBW := Lib.hid hbw
              have hk1 : (k : Int) < (tys.length : Int) := by omega
              have hk2 : (k : Int) < (tys2.length : Int) := by omega
              have hk2' : ¬ (tys2.length : Int) ≤ (k : Int) := by omega
              have hk3 : decide (tys2.length ≤ k) = false := by simpa using hk2'
              have hk4 : k < tys2.length := by omega
              clear hget hget' hr hr' hrr hrr' hty hty' hx hx2 hg0 hg0' hbw
              generalize x.name = nm at *
              generalize x.sort = so at *
              generalize x.facts.length = nl at *
              unfold maxLen at hg3 hg3'
              go_wp2_with fail
              go_quiet (fail)
              go_wp2_with fail
              go_roundw
              case rel => exact ⟨k + 1, by omega, by go_num, below_nqS HBW.out _⟩
              case measure => simp [intOf]; omega
            · have HB6 := Lib.hid (HB5.out.trans (hbw.mono HB5.out.size))
              go_wp2_with fail
              go_ret
              exact ⟨rfl, HB6.out⟩
    · have hne : (c2 != 0) = true := by simpa using hc2
      obtain rfl := hc1
      go_wp2_with fail
      refine HWK3.out.mono ?_
      rintro e w4 ⟨rfl, hb⟩
      go_wp2_with fail
      go_ret
      exact ⟨rfl, HB3.out.trans (hb.mono HB3.out.size)⟩
  · have hne : (c1 != 0) = true := by simpa using hc1
    go_wp2_with fail
    refine HWK3.out.mono ?_
    rintro e w4 ⟨rfl, hb⟩
    go_wp2_with fail
    go_ret
    exact ⟨rfl, HB3.out.trans (hb.mono HB3.out.size)⟩

theorem shapeFirst_reads (os : Os) {H : Type} (enc : TypeId × Value → H) : ∃ places, DataW.whole enc Tryd.prog ((laidWorld os).forCall (fun _ _ => 0) ⟨#[], #[.string ⟨#[]⟩, .string ⟨#[]⟩], []⟩).memory Tryd.f6.params.toList Rows.shapeFirstSpec.vars false #[Value.string ⟨#[]⟩, Value.string ⟨#[]⟩].toList 8 = some ([.lit (.string []), .lit (.string [])], [], places) :=
  ⟨[], by kernel_rfl⟩

set_option maxRecDepth 100000 in
theorem shapeFirst_lifted (os : Os) (started : os.Started) (H : Type) (enc : TypeId × Value → H) (F : Stop.Interp) :
    ReturnsInHanded {} Tryd.checked os 6 .any ((OpenSpec.ofChange Rows.shapeFirstSpec).preRow enc Tryd.prog Tryd.f6 Rows.shapeFirstRow.domain false Rows.shapeFirstRow.laid) (((OpenSpec.ofChange Rows.shapeFirstSpec).at F).post enc Tryd.prog Tryd.f6 false true false false) := by
  obtain ⟨places, hx⟩ := shapeFirst_reads os enc
  refine returnsInHanded_of_row (C := Tryd.checked) (s := OpenSpec.ofChange Rows.shapeFirstSpec) own started (by kernel_rfl) Tryd.func6
    (witness_row_at (enc := enc) (C := Tryd.checked) false (laidWorld os) #[.string ⟨#[]⟩, .string ⟨#[]⟩] rfl (by kernel_rfl) (by kernel_rfl) (by kernel_rfl)
      (OpenSpec.preRow_of_cond 8 hx (by kernel_rfl) (fun k hk => by cases hk) (by kernel_rfl) (laid_met_texts os))) ?_
  intro W base args ds gs before hval hW _ _ hreach hL _ _
  exact texts_contract Tryd.params6 (by kernel_rfl) rfl (fun _ _ => rfl) shapeFirst_walk W base args ds gs before hval hW hreach hL

theorem shapeFirst_said : Rows.ShapeFirstSaid :=
  OpenClaim.holds_of_cond 6 Tryd.f6 rfl rfl rfl rfl rfl rfl rfl ⟨rfl, rfl, rfl, rfl, rfl⟩ rfl rfl rfl rfl rfl (by kernel_rfl) Tryd.func6 (by kernel_rfl)
    (of_decide_eq_true (by kernel_rfl)) (by unfold Func.isWrapper; first | (rw [if_pos (by decide +kernel)]; kernel_rfl) | (rw [if_neg (by decide +kernel)]; exact ⟨rfl, rfl⟩))
    (fun os started H enc _ F => by rw [OpenClaim.pre_eq_preRow]; exact shapeFirst_lifted os started H enc F)

theorem shapeFirst_plain (f : FuncId) (fn : Func) (hf : Tryd.pinned.checked.prog.funcNamed "lychgate/lychgatelaw11.ShapeFirst" = some f) (hfn : Tryd.pinned.checked.prog.funcs[f]? = some fn) :
    true = Tryd.pinned.checked.prog.looks [] ∧ ∀ (j : Nat) t, fn.params[j]? = some t → Tryd.pinned.checked.prog.wantsStandIn t = false := by
  obtain rfl : f = 6 := Option.some.inj ((show Tryd.prog.funcNamed "lychgate/lychgatelaw11.ShapeFirst" = some 6 by kernel_rfl).symm.trans hf) |>.symm
  obtain rfl : fn = Tryd.f6 := (Option.some.inj (Tryd.func6.symm.trans hfn)).symm
  refine ⟨by kernel_rfl, fun j t ht => ?_⟩
  rw [Tryd.params6] at ht
  obtain rfl : t = 9 := by simpa using Array.mem_of_getElem? ht
  exact (show Tryd.prog.wantsStandIn 9 = false by kernel_rfl)

theorem shapeFirst_card : Rows.ShapeFirstCardSaid :=
  Claim7.holds_tied_plain_at .later [] _ _ _ _ shapeFirst_said (fun _ h => by cases h) (by kernel_rfl) (fun _ h => by cases h) shapeFirst_row_tie rfl ⟨rfl, rfl⟩ (by kernel_rfl) rfl shapeFirst_plain (by kernel_rfl)

end Go.Proofs.YtdkdidgeaalcgaaDoor
