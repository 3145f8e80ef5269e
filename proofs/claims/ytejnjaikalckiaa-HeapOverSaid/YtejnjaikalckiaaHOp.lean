/- The contract of heap.Heap.opened. -/
import Derived.Test.YtejnjaikalckiaaHPu
import Derived.Test.YtejnjaikalckiaaHLk
namespace Go.Proofs.Ytejnjaikalckiaa
open Go.RowKit

section
variable {T : HTy} {w0 W W' : World} {R : Thing} {b : Nat} {bc : List Value} {vc vf : Value} {vs : List Value} {H : Hp} {olds : List (Value × Nat)}
theorem HSg.rowFacts {t : TypeId} {k : Nat} {v : Value} {rows : List (List Value)} (h : HSg T w0 W (allT [R, rowT t k v rows]) b bc vc vf vs H olds) : W.ownsRow 0 t k v rows.length rows.flatten := by
  obtain ⟨F, hF⟩ := h.sep
  obtain ⟨G, h1, _, _⟩ := hF.holds 0 _ rfl
  exact (h1 1 _ rfl).1
/- A thing beside it is changed. -/
theorem HSg.besides {X X' : Thing} (h : HSg T w0 W (allT [R, X]) b bc vc vf vs H olds) : ∃ F, X.P W F ∧ ∀ W', Ch F W W' → X'.P W' (grow F W W') → HSg T w0 W' (allT [R, X']) b bc vc vf vs H olds := by
  have h1 := (show Sep w0 W ([allT [R, X]] ++ compsT T b bc vc vf vs H olds) from h.sep).pack.swap.unpack
  obtain ⟨F, hF, hn⟩ := h1.call 2 X rfl
  refine ⟨F, hF, fun W' hc hX => ?_⟩
  have h2 := (show Sep w0 W' ([allT (compsT T b bc vc vf vs H olds)] ++ [R, X']) from hn W' X' hc hX).pack
  exact ⟨h2.swap.unpack, h.len⟩
/- A value stored into a row of values. -/
theorem HSg.rowPut {t : TypeId} {g cap : Nat} {l : List Sy} (h : HSg T w0 W (allT [R, rowT t 4 (.slice (some ⟨g, 0, none⟩) l.length cap) (l.map syCells)]) b bc vc vf vs H olds) {j : Nat} (hj : j < l.length) (s : Sy) :
    HSg T w0 ((((W.setCell ⟨g, j * 4, none⟩ (.int .i64 s.kind)).setCell ⟨g, j * 4 + 1, none⟩ (.int .i64 s.v)).setCell ⟨g, j * 4 + 2, none⟩ (.int .i64 s.k)).setCell ⟨g, j * 4 + 3, none⟩ (.int .i64 s.b)) (allT [R, rowT t 4 (.slice (some ⟨g, 0, none⟩) l.length cap) ((l.set j s).map syCells)]) b bc vc vf vs H olds := by
  obtain ⟨F, hF, hn⟩ := h.besides (X' := rowT t 4 (.slice (some ⟨g, 0, none⟩) l.length cap) ((l.set j s).map syCells))
  have hg := hF.2.1 g rfl
  have hr := hF.1
  rw [List.length_map] at hr
  refine hn _ ((((((Ch.refl F W).set ⟨g, j * 4, none⟩ (.inl hg) _).set ⟨g, j * 4 + 1, none⟩ (.inl hg) _).set ⟨g, j * 4 + 2, none⟩ (.inl hg) _).set ⟨g, j * 4 + 3, none⟩ (.inl hg) _)) ⟨?_, fun g' hg' => by cases hg'; exact .inl hg, sy_each _⟩
  have h1 := ((((hr.stored (j * 4) (.int .i64 s.kind)).1.stored (j * 4 + 1) (.int .i64 s.v)).1.stored (j * 4 + 2) (.int .i64 s.k)).1.stored (j * 4 + 3) (.int .i64 s.b)).1
  have hget : (l.map syCells)[j]? = some (syCells l[j]) := by rw [List.getElem?_map, List.getElem?_eq_getElem hj]; rfl
  have e0 := flatL_set (sy_each l) hget 0 (.int .i64 s.kind) (by omega)
  have e1 : ((((l.map syCells).flatten.set (j * 4) (.int .i64 s.kind)).set (j * 4 + 1) (.int .i64 s.v)).set (j * 4 + 2) (.int .i64 s.k)).set (j * 4 + 3) (.int .i64 s.b) = ((l.set j s).map syCells).flatten := by
    have len4 : ∀ (x : List Value), x.length = 4 → ∀ r ∈ (l.map syCells).set j x, r.length = 4 := fun x hx r hr => by
      rcases List.mem_or_eq_of_mem_set hr with h | h
      · exact sy_each l r h
      · rw [h]; exact hx
    have hjm : j < (l.map syCells).length := by simpa using hj
    rw [Nat.add_zero] at e0
    rw [e0, flatL_set (len4 _ rfl) (List.getElem?_set_self hjm) 1 _ (by omega), List.set_set, flatL_set (len4 _ rfl) (List.getElem?_set_self hjm) 2 _ (by omega), List.set_set, flatL_set (len4 _ rfl) (List.getElem?_set_self hjm) 3 _ (by omega), List.set_set, List.map_set]
    rfl
  rw [e1] at h1
  rw [List.length_map, List.length_set]
  exact h1
end

theorem openL_at {a : Int} {i : Nat} {s : Sy} {l : List Sy} {H : Hp} (h : (i : Int) = a) : openL a i (s :: l) H = (openL a (i + 1) l H).map fun r => (s :: r.1, r.2) := by rw [openL, if_pos h]
theorem openL_no {a : Int} {i : Nat} {s : Sy} {l : List Sy} {H : Hp} (h : (i : Int) ≠ a) (hc : freshC H = true) : openL a i (s :: l) H = none := by rw [openL, if_neg h, if_pos hc]
theorem openL_go {a : Int} {i : Nat} {s : Sy} {l : List Sy} {H : Hp} (h : (i : Int) ≠ a) (hc : freshC H = false) : openL a i (s :: l) H = (openL a (i + 1) l (freshH H)).map fun r => (freshY H :: r.1, r.2) := by rw [openL, if_neg h, if_neg (by rw [hc]; decide)]
theorem freshH_go {H : Hp} (hc : freshC H = false) : freshH H = ⟨H.chunks, H.vars + 1, H.facts ++ [⟨H.vars, 0, 1099511627776⟩, ⟨0, H.vars, 1099511627776⟩]⟩ := by unfold freshH; rw [if_neg (by rw [hc]; decide)]
theorem freshC_no {H : Hp} (hc : freshC H = false) : H.vars < 96 ∧ H.facts.length ≤ 766 := by
  unfold freshC at hc
  simp only [Bool.or_eq_false_iff, decide_eq_false_iff_not] at hc
  omega

def OpPost (w0 : World) (R : Thing) (b : Nat) (vc : Value) (vs : List Value) (H : Hp) (c : Ck) (olds : List (Value × Nat)) (e : Ending) (w' : World) : Prop :=
  (openL c.at' 0 c.cells H = none ∧ e = .returned (.tuple #[.slice none 0 0, .int .i64 22]) ∧ ∃ vf' H1 ex, HS pT w0 w' R b vc vf' vs H1 olds ∧ H1.chunks = H.chunks ∧ H1.facts = H.facts ++ ex) ∨
  ∃ cs H1 ex vf' A' cap', openL c.at' 0 c.cells H = some (cs, H1) ∧ cs.length = c.cells.length ∧ e = .returned (.tuple #[.slice A' c.cells.length cap', .int .i64 0]) ∧ HS pT w0 w' (allT [R, rowT 36 4 (.slice A' c.cells.length cap') (cs.map syCells)]) b vc vf' vs H1 olds ∧ H1.chunks = H.chunks ∧ H1.facts = H.facts ++ ex ∧ H1.facts.length ≤ 768

set_option maxRecDepth 100000 in
set_option maxHeartbeats 16000000 in
theorem opened_any {w0 w : World} {R : Thing} {b : Nat} {vc vf : Value} {vs : List Value} {H : Hp} {olds : List (Value × Nat)} (h : HS pT w0 w R b vc vf vs H olds) (hl : H.facts.length ≤ 768) (hv : 0 ≤ H.vars ∧ H.vars ≤ 96) {kn : Nat} {c : Ck} (hc : H.chunks[kn]? = some c) (hcl : c.cells.length ≤ 1000000) {A : Option Addr} (hA : ckPtr vc kn = A) :
    Calls Try.prog 53 #[.pointer (some ⟨b, 0, none⟩), .pointer A] w (OpPost w0 R b vc vs H c olds) := by
  subst hA
  obtain ⟨gk, capk, vk, rfl, _, hcm, hgl, hgb, hvk, hcell, hfz⟩ := HSg.chunk h hc
  have hcells := HSg.cells h hc hvk
  obtain ⟨VA, vcap, rfl, _, hvm⟩ := row_form hcells
  have c10 := hcell 10 (by omega)
  change w.cell? ⟨gk, kn * 11 + 10, none⟩ = some (.slice VA c.cells.length vcap) at c10
  have hcl1 := clone_any (cap := vcap) w (SysAt.of_own hcells) hcl
  have HH := Lib.hid h
  simp only [ckPtr]
  clear hcells hcell hfz hvk h
  go_enter Try.func53, Try.ntmps53
  go_wp2_with fail
  ((with_reducible refine hcl1.mono ?_); rintro e w2 ⟨A', cap', rfl, ho, hg, hb⟩)
  have h2 := HSg.thing HH.out hb (rowT 36 4 (.slice A' c.cells.length cap') (c.cells.map syCells)) ⟨by rw [List.length_map]; exact ho, fun g hg' => .inr ⟨hg g hg', row_lt ho hg'⟩, sy_each _⟩
  have H2 := Lib.hid h2
  clear hcl1 ho hg hb h2 c10 HH
  obtain ⟨l, hlc⟩ : ∃ l, c.cells = l := ⟨_, rfl⟩
  have HLC := Lib.hid hlc
  rw [hlc] at H2 hcl ⊢
  clear hlc
  go_wp2_with fail
  go_loopw [17] (fun i wr => ∃ (k : Nat) (Hk : Hp) (vfk : Value) (cs1 : List Sy) (ex : List F), k ≤ l.length ∧ i = .int .i64 k ∧ cs1.length = k ∧ HS pT w0 wr (allT [R, rowT 36 4 (.slice A' l.length cap') ((cs1 ++ l.drop k).map syCells)]) b (.slice (some ⟨gk, 0, none⟩) H.chunks.length capk) vfk vs Hk olds ∧ Hk.chunks = H.chunks ∧ Hk.facts = H.facts ++ ex ∧ Hk.facts.length ≤ 768 ∧ (0 ≤ Hk.vars ∧ Hk.vars ≤ 96) ∧ openL c.at' 0 l H = (openL c.at' k (l.drop k) Hk).map (fun r => (cs1 ++ r.1, r.2))) (fun i _ => l.length - (intOf i).toNat)
  case atStart => exact ⟨0, H, _, [], [], by omega, rfl, rfl, H2.out, rfl, by simp, hl, hv, by simp⟩
  case round =>
    obtain ⟨k, Hk, vfk, cs1, ex, hkl, rfl, hcs, hs, hck, hfx, hfl, hvk, hop⟩ := hrel
    by_cases hlt : k < l.length
    · obtain ⟨s, hsk⟩ : ∃ s, l[k]? = some s := ⟨_, List.getElem?_eq_getElem hlt⟩
      have hdr : l.drop k = s :: l.drop (k + 1) := by
        rw [List.drop_eq_getElem_cons hlt]
        congr 1
        exact (List.getElem?_eq_some_iff.1 hsk).2
      rw [hdr] at hs hop
      obtain ⟨gk', capk', vk', hvc', _, _, hgl', _, _, hcell', _⟩ := HSg.chunk hs (show Hk.chunks[kn]? = some c by rw [hck]; exact hc)
      have q2 := hcell' 2 (by omega)
      obtain ⟨rfl, rfl⟩ : gk = gk' ∧ capk = capk' := by rw [hck] at hvc'; simpa using hvc'
      change wr.cell? ⟨gk, kn * 11 + 2, none⟩ = some (.int .i64 c.at') at q2
      have hlt2 : (k : Int) < (l.length : Int) := by omega
      have HS1 := Lib.hid hs
      have HOP := Lib.hid hop
      have HFX := Lib.hid hfx
      have HCK := Lib.hid hck
      clear hs hop hcell' hdr hsk hfx hck
      by_cases ha : (k : Int) = c.at'
      · have ta : ((k : Int) == c.at') = true := by simpa using ha
        have HA := Lib.hid ha
        clear ha
        go_wp2_with fail
        go_roundw
        case rel =>
          refine ⟨k + 1, Hk, vfk, cs1 ++ [s], ex, by omega, by go_num, by simp [hcs], ?_, HCK.out, HFX.out, hfl, hvk, ?_⟩
          · rw [List.append_assoc]
            exact HS1.out
          · rw [HOP.out, openL_at HA.out]
            simp [Option.map_map, Function.comp_def]
        case measure => simp [intOf]; omega
      · have ta : ((k : Int) == c.at') = false := by simpa using ha
        have HA := Lib.hid ha
        have hfr := fresh_any HS1.out hfl hvk
        clear ha
        go_wp2_with fail
        ((with_reducible refine hfr.mono ?_); rintro e w3 ⟨vf', rfl, h3⟩)
        clear hfr HS1
        cases hfc : freshC Hk with
        | true =>
          have e1 : freshE Hk = 22 := by unfold freshE; rw [if_pos hfc]
          have e2 : freshH Hk = Hk := by unfold freshH; rw [if_pos hfc]
          rw [e1]
          rw [e2] at h3
          have H3 := Lib.hid h3
          have HN : Hid (openL c.at' 0 l H = none) := Lib.hid (by rw [HOP.out, openL_no HA.out hfc]; rfl)
          clear h3 hfc e1 e2 HOP
          unfold SyV
          go_wp2_with fail
          go_ret2
          exact .inl ⟨by rw [HLC.out]; exact HN.out, rfl, vf', Hk, ex, HSg.quiet (HSg.front H3.out) (by go_grown), HCK.out, HFX.out⟩
        | false =>
          have e1 : freshE Hk = 0 := by unfold freshE; rw [if_neg (by rw [hfc]; decide)]
          rw [e1]
          obtain ⟨nv, nf⟩ := freshC_no hfc
          have HFC := Lib.hid hfc
          obtain ⟨gr, capr, hsl, hrl, hrm⟩ := row_pos (HSg.rowFacts h3) (by rw [List.length_map, List.length_append, List.length_cons]; omega)
          obtain ⟨rfl, rfl⟩ : A' = some ⟨gr, 0, none⟩ ∧ cap' = capr := by simp at hsl; exact ⟨hsl.1, hsl.2.2⟩
          have hrow := HSg.rowFacts h3
          have hrl2 : ((cs1 ++ s :: l.drop (k + 1)).map syCells).length = l.length := by simp [hcs]; omega
          rw [hrl2] at hrow
          have hgr := row_lt hrow rfl
          obtain ⟨y0, hy0⟩ : ∃ y, w3.cell? ⟨gr, k * 4, none⟩ = some y := ⟨_, (hrow.cellAt (k * 4) (by omega)).trans (List.getElem?_eq_getElem (by have h9 := hrow.1; omega))⟩
          obtain ⟨y1, hy1⟩ : ∃ y, w3.cell? ⟨gr, k * 4 + 1, none⟩ = some y := ⟨_, (hrow.cellAt (k * 4 + 1) (by omega)).trans (List.getElem?_eq_getElem (by have h9 := hrow.1; omega))⟩
          obtain ⟨y2, hy2⟩ : ∃ y, w3.cell? ⟨gr, k * 4 + 2, none⟩ = some y := ⟨_, (hrow.cellAt (k * 4 + 2) (by omega)).trans (List.getElem?_eq_getElem (by have h9 := hrow.1; omega))⟩
          obtain ⟨y3, hy3⟩ : ∃ y, w3.cell? ⟨gr, k * 4 + 3, none⟩ = some y := ⟨_, (hrow.cellAt (k * 4 + 3) (by omega)).trans (List.getElem?_eq_getElem (by have h9 := hrow.1; omega))⟩
          have yz := hrow.frozenAt
          have H3 := Lib.hid h3
          clear h3 hfc e1 hrow hsl
          unfold maxLen at hrm
          unfold SyV
          go_wp2_with fail
          go_roundw
          case rel =>
            have hlen : (cs1 ++ s :: l.drop (k + 1)).length = l.length := by simp [hcs]; omega
            have h4 : HS pT w0 w3 (allT [R, rowT 36 4 (.slice (some ⟨gr, 0, none⟩) (cs1 ++ s :: l.drop (k + 1)).length cap') ((cs1 ++ s :: l.drop (k + 1)).map syCells)]) b (.slice (some ⟨gk, 0, none⟩) H.chunks.length capk) vf' vs (freshH Hk) olds := by rw [hlen]; exact H3.out
            have h5 := (HSg.rowPut h4 (j := k) (by omega) (freshY Hk)).quiet ((Below.refl _ _).alloc (Nat.le_refl _) (.cells #[.int .i64 (freshY Hk).kind, .int .i64 (freshY Hk).v, .int .i64 (freshY Hk).k, .int .i64 (freshY Hk).b] 36))
            have hset : (cs1 ++ s :: l.drop (k + 1)).set k (freshY Hk) = (cs1 ++ [freshY Hk]) ++ l.drop (k + 1) := by
              rw [List.set_append_right _ _ (by omega), show k - cs1.length = 0 by omega, List.set_cons_zero, List.append_assoc]
              rfl
            rw [hset, hlen] at h5
            refine ⟨k + 1, freshH Hk, vf', cs1 ++ [freshY Hk], ex ++ [⟨Hk.vars, 0, 1099511627776⟩, ⟨0, Hk.vars, 1099511627776⟩], by omega, by go_num, by simp [hcs], h5, ?_, ?_, ?_, ?_, ?_⟩
            · rw [freshH_go HFC.out]; exact HCK.out
            · rw [freshH_go HFC.out]; simp only; rw [HFX.out, List.append_assoc]
            · rw [freshH_go HFC.out]; simp; omega
            · rw [freshH_go HFC.out]; simp only; omega
            · rw [HOP.out, openL_go HA.out HFC.out]
              simp [Option.map_map, Function.comp_def]
          case measure => simp [intOf]; omega
    · have hke : k = l.length := by omega
      subst hke
      rw [List.drop_length] at hop hs
      rw [List.append_nil] at hs
      have HS1 := Lib.hid hs
      have HOP : Hid (openL c.at' 0 l H = some (cs1, Hk)) := Lib.hid (by rw [hop]; simp [openL])
      have HFX := Lib.hid hfx
      have HCK := Lib.hid hck
      clear hs hop hfx hck
      go_wp2_with fail
      go_ret2
      exact .inr ⟨cs1, Hk, ex, vfk, A', cap', by rw [HLC.out]; exact HOP.out, by rw [HLC.out]; exact hcs, by rw [HLC.out]; rfl, by rw [HLC.out]; exact HS1.out, HCK.out, HFX.out, hfl⟩

end Go.Proofs.Ytejnjaikalckiaa
