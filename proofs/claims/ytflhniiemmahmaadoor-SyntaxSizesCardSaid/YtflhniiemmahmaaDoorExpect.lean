/- The contract of the parser's expect: the next token, which must be one of those texts. -/
import Derived.Test.YtflhniiemmahmaaDoorPeek
import Derived.Deep.LoopGhost
namespace Go.Proofs.YtflhniiemmahmaaDoor
open Go.RowKit

theorem expectP_yes {ss : List ByteArray} {l : List Tok} {k : Nat} {s : ByteArray} (hk : ss[k]? = some s) (h : isT (hdT l) s = true) : expectP ss l = .ok (hdT l, l.tail) := by
  unfold expectP
  rw [List.any_eq_true.2 ⟨s, List.mem_of_getElem? hk, h⟩]
  rfl
theorem expectP_no {ss : List ByteArray} {l : List Tok} (h : ∀ s ∈ ss, isT (hdT l) s = false) : expectP ss l = .error ((hdT l).place, 20) := by
  unfold expectP
  rw [List.any_eq_false.2 (fun s hs => by simp [h s hs])]
  rfl

def ExpRel (ss : List ByteArray) (l : List Tok) (W : World) (g : Nat) (i : Value) (wr : World) : Prop :=
  ∃ k : Nat, k ≤ ss.length ∧ ss.length ≤ k + g ∧ i = .int .i64 k ∧ (∀ s ∈ ss.take k, isT (hdT l) s = false) ∧ Below W.heap.size W wr

set_option maxRecDepth 100000 in
set_option maxHeartbeats 1000000 in
theorem expect_any {E : Env} {w : World} {l : List Tok} {d : Nat} (h : PSt E w l d) (ss : List ByteArray) (hne : ∀ s ∈ ss, 0 < s.size) (hn : ss.length ≤ 8) :
    Calls Tryd.prog 57 #[.pointer (some ⟨E.pb, 0, none⟩), .slice (some ⟨w.heap.size, 0, none⟩) ss.length ss.length] (w.alloc (.cells (ss.map Value.string).toArray 9)) (PPost VTok E w l d (expectP ss l)) := by
  have HR := Lib.hid (((Run.start h).alloc (.cells (ss.map Value.string).toArray 9)).alloc (.cells zeroTokCells.toArray 50))
  have HC := Lib.hid ((Blk.new w (ss.map Value.string) 9).alloc (.cells zeroTokCells.toArray 50))
  have HB := Lib.hid (Blk.new2 w (.cells (ss.map Value.string).toArray 9) zeroTokCells 50)
  have HL := Lib.hid (tail_lt h)
  have HO := Lib.hid h.headOK
  have HE := Lib.hid h.ends
  have HNE := Lib.hid hne
  have hpw := h.plt
  have htw := h.tlt
  clear h hne
  go_enter Tryd.func57, Tryd.ntmps57
  go_wp2_with fail
  go_loopg [9] ss.length (fun g i wr => ExpRel ss l ((w.alloc (.cells (ss.map Value.string).toArray 9)).alloc (.cells zeroTokCells.toArray 50)) g i wr)
  case atStart => exact ⟨0, by omega, by omega, rfl, by simp, Below.refl _ _⟩
  case round =>
    obtain ⟨k, hk, hg, rfl, hno, hbel⟩ := hrel
    have HNO := Lib.hid hno
    have HRW := Lib.hid (HR.out.below hbel)
    have HBW := Lib.hid (HB.out.kp (Kp.of_below (pb := E.pb) hbel) (by omega))
    have HCW := Lib.hid (HC.out.kp (Kp.of_below (pb := E.pb) hbel) (by omega))
    have HBEL := Lib.hid hbel
    clear hno hbel
    by_cases hlt : k < ss.length
    · have hcell : wr.cell? ⟨w.heap.size, k, none⟩ = some (.string ss[k]) := by rw [HCW.out.cell k]; simp [hlt]
      cases hi : isT (hdT l) ss[k]
      · have HI := Lib.hid hi
        go_wp2_with fail
        refine (is_any HRW.out.st ss[k]).mono ?_
        rintro e w1 ⟨rfl, hb⟩
        rw [HI.out]
        have HB1 := Lib.hid (HBEL.out.trans (hb.mono HBEL.out.size))
        clear hb hi hcell
        go_wp2
        go_roundg (gk - 1)
        case measure => omega
        case rel =>
          refine ⟨k + 1, by omega, by omega, by go_num, ?_, HB1.out⟩
          intro s hs
          rw [List.take_succ_eq_append_getElem hlt] at hs
          rcases List.mem_append.1 hs with h1 | h1
          · exact HNO.out s h1
          · rw [List.mem_singleton.1 h1]; exact HI.out
      · have HI := Lib.hid hi
        go_wp2_with fail
        refine (is_any HRW.out.st ss[k]).mono ?_
        rintro e w1 ⟨rfl, hb⟩
        rw [HI.out]
        have HR1 := Lib.hid (HRW.out.below hb)
        have HB1 := Lib.hid (HBW.out.kp (Kp.of_below (pb := E.pb) hb) (by omega))
        have HT := Lib.hid (HE.out.tail_is HI.out (HNE.out _ (List.getElem_mem hlt)))
        have HP := Lib.hid (expectP_yes (List.getElem?_eq_getElem hlt) HI.out)
        clear hb hi hcell
        go_wp2_with fail
        refine (take_any HR1.out.st HT.out).mono ?_
        rintro e w2 ⟨rfl, hs2, hk2⟩
        have HR2 := Lib.hid (HR1.out.call hk2 hs2)
        have HB2 := Lib.hid (HB1.out.kp hk2 (by omega))
        clear hs2 hk2
        unfold tokV
        go_wp2_with ((with_reducible refine at_st 50 (.tmp 4) ?_); refine wpList_store_blk rfl 50 (.tmp 4) (.tmp 17) rfl (w.heap.size + 1) (tokCells (hdT l)) rfl rfl HB2.out Tryd.sizeTok rfl (tokCells_one _) ?_)
        exact ret_blk (cs := tokCells (hdT l)) Tryd.results57 rfl HB2.out Tryd.underlying50 rfl Tryd.sizeTok rfl
          (.mk_ok HP.out rfl ⟨rfl, HO.out⟩ (HR2.out.setRow (by omega) _).st HL.out (HR2.out.setRow (by omega) _).kp)
    · have HP := Lib.hid (expectP_no (ss := ss) (l := l) (by rw [List.take_of_length_le (by omega)] at HNO; exact HNO.out))
      go_wp2_with fail
      refine (misplaced_any HRW.out.st).mono ?_
      rintro e w2 ⟨rfl, hb2⟩
      have HR2 := Lib.hid (HRW.out.below hb2)
      clear hb2
      go_wp2
      exact ⟨rfl, Run.err HR2.out.kp HP.out (.inl rfl)⟩

theorem expect_at {E : Env} {w : World} {l : List Tok} {d g m c : Nat} (h : PSt E w l d) (ss : List ByteArray) (hne : ∀ s ∈ ss, 0 < s.size) (hn : ss.length ≤ 8) (hg : g = w.heap.size) (hm : m = ss.length) (hc : c = ss.length) :
    Calls Tryd.prog 57 #[.pointer (some ⟨E.pb, 0, none⟩), .slice (some ⟨g, 0, none⟩) m c] (w.alloc (.cells (ss.map Value.string).toArray 9)) (PPost VTok E w l d (expectP ss l)) := by
  subst hg hm hc
  exact expect_any h ss hne hn

end Go.Proofs.YtflhniiemmahmaaDoor
