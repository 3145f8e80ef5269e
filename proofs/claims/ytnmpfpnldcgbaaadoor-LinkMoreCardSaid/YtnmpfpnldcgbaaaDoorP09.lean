/- The contracts of the parser's methods that look at the next token or take it: peek, take, misplaced, is, accept, expectKind, name, number. The contract of the parser's expect: the next token, which must be one of those texts. -/
import Derived.Test.YtnmpfpnldcgbaaaDoorP06
import Derived.RegionTactic
import Derived.ChangeAlike
import Derived.BigRegion
import Derived.Deep.LoopGhost
namespace Go.Proofs.YtnmpfpnldcgbaaaDoor
section
open Go.RowKit

set_option maxRecDepth 100000 in
set_option maxHeartbeats 400000 in
theorem peek_any {E : Env} {w : World} {l : List Tok} {d : Nat} (h : PSt E w l d) :
    Calls Tryd.prog 70 #[.pointer (some ⟨E.pb, 0, none⟩)] w fun e w' => e = .returned (tokV (hdT l)) ∧ Below w.heap.size w w' := by
  obtain ⟨c0, c1, _, _⟩ := h.cell
  obtain ⟨t0, t1, t2, t3⟩ := h.tok
  have hk : E.ts.length - l.length < E.ts.length := by have := h.head.1; have := h.le; omega
  have hlen := h.len
  have hp := h.plt
  have ht := h.tlt
  generalize E.ts.length - l.length = k at *
  clear h
  go_enter Tryd.func70, Tryd.ntmps70
  go_wp2
  go_region
  go_wp2
  exact bodyPost_ret (v := tokV (hdT l)) (by simp [results, Tryd.results70, go_sem, tokV]) rfl ⟨rfl, ((Below.refl _ _).alloc (Nat.le_refl _) _).drew⟩

def zeroTokCells : List Value := [.int .i64 0, .string ⟨#[]⟩, .int .i64 0, .int .i64 0]

set_option maxRecDepth 100000 in
set_option maxHeartbeats 400000 in
theorem take_any {E : Env} {w : World} {l : List Tok} {d : Nat} (h : PSt E w l d) (he : Ends l.tail) :
    Calls Tryd.prog 100 #[.pointer (some ⟨E.pb, 0, none⟩)] w fun e w' => e = .returned (tokV (hdT l)) ∧ PSt E w' l.tail d ∧ Kp E.pb w w' := by
  go_enter Tryd.func100, Tryd.ntmps100
  go_wp2_with fail
  refine (peek_any (h.alloc _)).mono ?_
  rintro e w1 ⟨rfl, hb⟩
  have hk1 : Kp E.pb (w.alloc _) w1 := .of_below hb
  have hs := (h.alloc _).below hb
  obtain ⟨c0, c1, c2, cf⟩ := hs.cell
  have hlen := h.len
  have hp := hs.plt
  have hpw := h.plt
  have htw := h.tlt
  have HST := Lib.hid (hs.step he)
  have HK := Lib.hid (((Kp.refl E.pb w).alloc _).trans hk1)
  have HR := Lib.hid ((Blk.new w zeroTokCells 109).kp hk1 (by omega))
  have hsz : w.heap.size < w1.heap.size := by have := hb.size; simp at this; omega
  clear hb hs h hk1
  unfold tokV
  generalize hkk : E.ts.length - l.length = k at *
  have hkb : k ≤ 16385 := by omega
  clear hkk
  go_wp2_with ((with_reducible refine at_st 109 (.tmp 2) ?_); refine wpList_store_blk rfl 109 (.tmp 2) (.tmp 13) rfl w.heap.size (tokCells (hdT l)) rfl rfl ((HR.out.setOther ⟨E.pb, 1, none⟩ _ (by show _ ≠ E.pb; omega)).alloc _) Tryd.sizeTok rfl (tokCells_one _) ?_)
  exact ret_blk (cs := tokCells (hdT l)) Tryd.results100 rfl ((HR.out.setOther ⟨E.pb, 1, none⟩ _ (by show _ ≠ E.pb; omega)).alloc _) Tryd.underlying109 rfl Tryd.sizeTok rfl ⟨rfl, (HST.out.alloc _).setRow (by omega) (by omega) _, ((HK.out.setPb _ _).alloc _).setRow (Nat.le_refl _) _⟩

set_option maxRecDepth 100000 in
set_option maxHeartbeats 400000 in
theorem misplaced_any {E : Env} {w : World} {l : List Tok} {d : Nat} (h : PSt E w l d) :
    Calls Tryd.prog 101 #[.pointer (some ⟨E.pb, 0, none⟩)] w fun e w' => e = .returned (.agg #[.int .i64 (hdT l).place, .int .i64 20]) ∧ Below w.heap.size w w' := by
  go_enter Tryd.func101, Tryd.ntmps101
  go_wp2_with fail
  refine (peek_any (h.alloc _)).mono ?_
  rintro e w1 ⟨rfl, hb⟩
  have HB := Lib.hid (((Below.refl w.heap.size w).alloc (Nat.le_refl _) _).trans (hb.mono (by simp)))
  obtain ⟨hc, hf⟩ := bcell hb
  clear hb h
  unfold tokV
  have fl0 := fldTok0
  have fl1 := fldTok1
  have fl2 := fldTok2
  have fl3 := fldTok3
  go_wp2
  exact bodyPost_ret (v := .agg #[.int .i64 (hdT l).place, .int .i64 20]) (by simp [results, Tryd.results101, go_sem, hc]) rfl ⟨rfl, (HB.out.setCell (Nat.le_refl _) _).setCell (Nat.le_refl _) _⟩

set_option maxRecDepth 100000 in
set_option maxHeartbeats 400000 in
theorem is_any {E : Env} {w : World} {l : List Tok} {d : Nat} (h : PSt E w l d) (s : ByteArray) :
    Calls Tryd.prog 99 #[.pointer (some ⟨E.pb, 0, none⟩), .string s] w fun e w' => e = .returned (.bool (isT (hdT l) s)) ∧ Below w.heap.size w w' := by
  go_enter Tryd.func99, Tryd.ntmps99
  go_wp2_with fail
  refine (peek_any h).mono ?_
  rintro e w1 ⟨rfl, hb⟩
  have HB := Lib.hid hb
  clear hb h
  unfold tokV
  have fl0 := fldTok0
  have fl1 := fldTok1
  have fl2 := fldTok2
  have fl3 := fldTok3
  go_wp2
  go_ret
  exact ⟨rfl, HB.out⟩

set_option maxRecDepth 100000 in
set_option maxHeartbeats 400000 in
theorem accept_no {E : Env} {w : World} {l : List Tok} {d : Nat} (h : PSt E w l d) {s : ByteArray} (hi : isT (hdT l) s = false) :
    Calls Tryd.prog 104 #[.pointer (some ⟨E.pb, 0, none⟩), .string s] w fun e w' => e = .returned (.bool false) ∧ Below w.heap.size w w' := by
  go_enter Tryd.func104, Tryd.ntmps104
  go_wp2_with fail
  refine (is_any h s).mono ?_
  rintro e w1 ⟨rfl, hb⟩
  rw [hi]
  have HB := Lib.hid hb
  clear hb h hi
  go_wp2
  go_ret
  exact ⟨rfl, HB.out⟩

set_option maxRecDepth 100000 in
set_option maxHeartbeats 400000 in
theorem accept_yes {E : Env} {w : World} {l : List Tok} {d : Nat} (h : PSt E w l d) {s : ByteArray} (hi : isT (hdT l) s = true) (hs : 0 < s.size) :
    Calls Tryd.prog 104 #[.pointer (some ⟨E.pb, 0, none⟩), .string s] w fun e w' => e = .returned (.bool true) ∧ PSt E w' l.tail d ∧ Kp E.pb w w' := by
  go_enter Tryd.func104, Tryd.ntmps104
  go_wp2_with fail
  refine (is_any h s).mono ?_
  rintro e w1 ⟨rfl, hb⟩
  rw [hi]
  have h1 := h.below hb
  obtain ⟨c0, c1, c2, cf⟩ := h1.cell
  have hp := h1.plt
  have hlen := h.len
  have HST := Lib.hid (h1.step (h.ends.tail_is hi hs))
  have HK := Lib.hid (Kp.of_below (pb := E.pb) hb)
  clear hb h h1 hi hs
  generalize hkk : E.ts.length - l.length = k at *
  have hkb : k ≤ 16385 := by omega
  clear hkk
  go_wp2
  go_ret
  exact ⟨rfl, HST.out, HK.out.setPb _ _⟩

set_option maxRecDepth 100000 in
set_option maxHeartbeats 400000 in
theorem expectKind_any {E : Env} {w : World} {l : List Tok} {d : Nat} (h : PSt E w l d) (k : Nat) (hk0 : 0 < k) :
    Calls Tryd.prog 114 #[.pointer (some ⟨E.pb, 0, none⟩), .int .i64 k] w (PPost VTok E w l d (kindP k l)) := by
  have hR := (Run.start h).alloc (.cells zeroTokCells.toArray 109)
  go_enter Tryd.func114, Tryd.ntmps114
  go_wp2_with fail
  refine (peek_any (h.alloc _)).mono ?_
  rintro e w1 ⟨rfl, hb⟩
  have hR1 := hR.below hb
  have HB := Lib.hid ((Blk.new w zeroTokCells 109).kp (Kp.of_below (pb := E.pb) hb) (by have := h.plt; omega))
  have HR := Lib.hid hR1
  have HL := Lib.hid (tail_lt h)
  have HO := Lib.hid h.headOK
  have HE := Lib.hid h.ends
  clear hb h hR hR1
  by_cases hk : (hdT l).kind = k
  · have HP := Lib.hid (show kindP k l = .ok (hdT l, l.tail) by unfold kindP; rw [beq_iff_eq.2 hk]; rfl)
    have hb : ((((hdT l).kind : Int)) != (k : Int)) = false := by simp [hk]
    have HT := Lib.hid (HE.out.tail (by omega))
    clear hk
    unfold tokV
    have fl0 := fldTok0
    have fl1 := fldTok1
    have fl2 := fldTok2
    have fl3 := fldTok3
    go_wp2_with fail
    refine (take_any HR.out.st HT.out).mono ?_
    rintro e w2 ⟨rfl, hs2, hk2⟩
    have HR2 := Lib.hid (HR.out.call hk2 hs2)
    have HB2 := Lib.hid (HB.out.kp hk2 (by have := HR.out.lo; omega))
    clear hs2 hk2
    go_wp2_with ((with_reducible refine at_st 109 (.tmp 4) ?_); refine wpList_store_blk rfl 109 (.tmp 4) (.tmp 14) rfl w.heap.size (tokCells (hdT l)) rfl rfl HB2.out Tryd.sizeTok rfl (tokCells_one _) ?_)
    exact ret_blk (cs := tokCells (hdT l)) Tryd.results114 rfl HB2.out Tryd.underlying109 rfl Tryd.sizeTok rfl
      (.mk_ok HP.out rfl ⟨rfl, HO.out⟩ (HR2.out.setRow (Nat.le_refl _) _).st HL.out (HR2.out.setRow (Nat.le_refl _) _).kp)
  · have HP := Lib.hid (show kindP k l = .error ((hdT l).place, 20) by unfold kindP; rw [beq_eq_false_iff_ne.2 hk]; rfl)
    have hb : ((((hdT l).kind : Int)) != (k : Int)) = true := by simp; omega
    clear hk
    unfold tokV
    have fl0 := fldTok0
    have fl1 := fldTok1
    have fl2 := fldTok2
    have fl3 := fldTok3
    go_wp2_with fail
    refine (misplaced_any HR.out.st).mono ?_
    rintro e w2 ⟨rfl, hb2⟩
    have HR2 := Lib.hid (HR.out.below hb2)
    clear hb2
    go_wp2
    exact ⟨rfl, Run.err HR2.out.kp HP.out (.inl rfl)⟩

set_option maxRecDepth 100000 in
set_option maxHeartbeats 400000 in
theorem name_any {E : Env} {w : World} {l : List Tok} {d : Nat} (h : PSt E w l d) :
    Calls Tryd.prog 102 #[.pointer (some ⟨E.pb, 0, none⟩)] w (PPost VStr E w l d (nameP l)) := by
  go_enter Tryd.func102, Tryd.ntmps102
  go_wp2_with fail
  refine (expectKind_any h 1 (by omega)).mono ?_
  intro e w1 hp
  cases hr : kindP 1 l with
  | error pc =>
    obtain ⟨p, c⟩ := pc
    obtain ⟨rfl, hk, hcd⟩ := hp.err hr
    go_wp2
    exact ⟨rfl, Run.err hk (by unfold nameP; exact bd_err hr _) hcd⟩
  | ok q =>
    obtain ⟨t, l1⟩ := q
    obtain ⟨v, rfl, ⟨rfl, ho⟩, hs, hl, hk⟩ := hp.ok hr
    have HP := Lib.hid (show nameP l = .ok (t.text, l1) by unfold nameP; exact bd_ok hr _)
    have HS := Lib.hid hs
    have HK := Lib.hid hk
    have HL := Lib.hid hl
    clear hr hp h hs hk hl
    unfold tokV
    have fl0 := fldTok0
    have fl1 := fldTok1
    have fl2 := fldTok2
    have fl3 := fldTok3
    go_wp2
    go_ret
    exact .mk_ok HP.out rfl rfl HS.out HL.out HK.out

set_option maxRecDepth 100000 in
set_option maxHeartbeats 400000 in
theorem number_any {E : Env} {w : World} {l : List Tok} {d : Nat} (h : PSt E w l d) :
    Calls Tryd.prog 124 #[.pointer (some ⟨E.pb, 0, none⟩)] w (PPost VNum E w l d (numberP l)) := by
  go_enter Tryd.func124, Tryd.ntmps124
  go_wp2_with fail
  refine (expectKind_any h 3 (by omega)).mono ?_
  intro e w1 hp
  cases hr : kindP 3 l with
  | error pc =>
    obtain ⟨p, c⟩ := pc
    obtain ⟨rfl, hk, hcd⟩ := hp.err hr
    go_wp2
    exact ⟨rfl, Run.err hk (by unfold numberP; exact bd_err hr _) hcd⟩
  | ok q =>
    obtain ⟨t, l1⟩ := q
    obtain ⟨v, rfl, ⟨rfl, ho⟩, hs, hl, hk⟩ := hp.ok hr
    have HP := Lib.hid (show numberP l = .ok ((t.num : Int), l1) by unfold numberP; exact bd_ok hr _)
    have HS := Lib.hid hs
    have HK := Lib.hid hk
    have HL := Lib.hid hl
    have HN := Lib.hid ho.num
    clear hr hp h hs hk hl ho
    unfold tokV
    have fl0 := fldTok0
    have fl1 := fldTok1
    have fl2 := fldTok2
    have fl3 := fldTok3
    go_wp2
    go_ret
    exact .mk_ok HP.out rfl ⟨rfl, by omega, by have := HN.out; omega⟩ HS.out HL.out HK.out
end

section
open Go.RowKit

theorem expectP_yes {ss : List ByteArray} {l : List Tok} {k : Nat} {s : ByteArray} (hk : ss[k]? = some s) (h : isT (hdT l) s = true) : expectP ss l = .ok (hdT l, l.tail) := by
  unfold expectP
  rw [List.any_eq_true.2 ⟨s, List.mem_of_getElem? hk, h⟩]
  rfl
theorem expectP_no {ss : List ByteArray} {l : List Tok} (h : ∀ s ∈ ss, isT (hdT l) s = false) : expectP ss l = .error ((hdT l).place, 20) := by
  unfold expectP
  rw [List.any_eq_false.2 (fun s hs => by simp [h s hs])]
  rfl

def ExpRel (ss : List ByteArray) (l : List Tok) (W : World) (g : Nat) (i : Value) (wr : World) : Prop :=
  ∃ k : Nat, k ≤ ss.length ∧ ss.length ≤ k + g ∧ i = .int .i64 k ∧ (∀ s ∈ ss.take k, isT (hdT l) s = false) ∧ Below W.heap.size W wr

set_option maxRecDepth 100000 in
set_option maxHeartbeats 1000000 in
theorem expect_any {E : Env} {w : World} {l : List Tok} {d : Nat} (h : PSt E w l d) (ss : List ByteArray) (hne : ∀ s ∈ ss, 0 < s.size) (hn : ss.length ≤ 8) :
    Calls Tryd.prog 85 #[.pointer (some ⟨E.pb, 0, none⟩), .slice (some ⟨w.heap.size, 0, none⟩) ss.length ss.length] (w.alloc (.cells (ss.map Value.string).toArray 9)) (PPost VTok E w l d (expectP ss l)) := by
  have HR := Lib.hid (((Run.start h).alloc (.cells (ss.map Value.string).toArray 9)).alloc (.cells zeroTokCells.toArray 109))
  have HC := Lib.hid ((Blk.new w (ss.map Value.string) 9).alloc (.cells zeroTokCells.toArray 109))
  have HB := Lib.hid (Blk.new2 w (.cells (ss.map Value.string).toArray 9) zeroTokCells 109)
  have HL := Lib.hid (tail_lt h)
  have HO := Lib.hid h.headOK
  have HE := Lib.hid h.ends
  have HNE := Lib.hid hne
  have hpw := h.plt
  have htw := h.tlt
  clear h hne
  go_enter Tryd.func85, Tryd.ntmps85
  go_wp2_with fail
  go_loopg [9] ss.length (fun g i wr => ExpRel ss l ((w.alloc (.cells (ss.map Value.string).toArray 9)).alloc (.cells zeroTokCells.toArray 109)) g i wr)
  case atStart => exact ⟨0, by omega, by omega, rfl, by simp, Below.refl _ _⟩
  case round =>
    obtain ⟨k, hk, hg, rfl, hno, hbel⟩ := hrel
    have HNO := Lib.hid hno
    have HRW := Lib.hid (HR.out.below hbel)
    have HBW := Lib.hid (HB.out.kp (Kp.of_below (pb := E.pb) hbel) (by omega))
    have HCW := Lib.hid (HC.out.kp (Kp.of_below (pb := E.pb) hbel) (by omega))
    have HBEL := Lib.hid hbel
    clear hno hbel
    by_cases hlt : k < ss.length
    · have hcell : wr.cell? ⟨w.heap.size, k, none⟩ = some (.string ss[k]) := by rw [HCW.out.cell k]; simp [hlt]
      cases hi : isT (hdT l) ss[k]
      · have HI := Lib.hid hi
        go_wp2_with fail
        refine (is_any HRW.out.st ss[k]).mono ?_
        rintro e w1 ⟨rfl, hb⟩
        rw [HI.out]
        have HB1 := Lib.hid (HBEL.out.trans (hb.mono HBEL.out.size))
        clear hb hi hcell
        go_wp2
        go_roundg (gk - 1)
        case measure => omega
        case rel =>
          refine ⟨k + 1, by omega, by omega, by go_num, ?_, HB1.out⟩
          intro s hs
          rw [List.take_succ_eq_append_getElem hlt] at hs
          rcases List.mem_append.1 hs with h1 | h1
          · exact HNO.out s h1
          · rw [List.mem_singleton.1 h1]; exact HI.out
      · have HI := Lib.hid hi
        go_wp2_with fail
        refine (is_any HRW.out.st ss[k]).mono ?_
        rintro e w1 ⟨rfl, hb⟩
        rw [HI.out]
        have HR1 := Lib.hid (HRW.out.below hb)
        have HB1 := Lib.hid (HBW.out.kp (Kp.of_below (pb := E.pb) hb) (by omega))
        have HT := Lib.hid (HE.out.tail_is HI.out (HNE.out _ (List.getElem_mem hlt)))
        have HP := Lib.hid (expectP_yes (List.getElem?_eq_getElem hlt) HI.out)
        clear hb hi hcell
        go_wp2_with fail
        refine (take_any HR1.out.st HT.out).mono ?_
        rintro e w2 ⟨rfl, hs2, hk2⟩
        have HR2 := Lib.hid (HR1.out.call hk2 hs2)
        have HB2 := Lib.hid (HB1.out.kp hk2 (by omega))
        clear hs2 hk2
        unfold tokV
        go_wp2_with ((with_reducible refine at_st 109 (.tmp 4) ?_); refine wpList_store_blk rfl 109 (.tmp 4) (.tmp 17) rfl (w.heap.size + 1) (tokCells (hdT l)) rfl rfl HB2.out Tryd.sizeTok rfl (tokCells_one _) ?_)
        exact ret_blk (cs := tokCells (hdT l)) Tryd.results85 rfl HB2.out Tryd.underlying109 rfl Tryd.sizeTok rfl
          (.mk_ok HP.out rfl ⟨rfl, HO.out⟩ (HR2.out.setRow (by omega) _).st HL.out (HR2.out.setRow (by omega) _).kp)
    · have HP := Lib.hid (expectP_no (ss := ss) (l := l) (by rw [List.take_of_length_le (by omega)] at HNO; exact HNO.out))
      go_wp2_with fail
      refine (misplaced_any HRW.out.st).mono ?_
      rintro e w2 ⟨rfl, hb2⟩
      have HR2 := Lib.hid (HRW.out.below hb2)
      clear hb2
      go_wp2
      exact ⟨rfl, Run.err HR2.out.kp HP.out (.inl rfl)⟩

theorem expect_at {E : Env} {w : World} {l : List Tok} {d g m c : Nat} (h : PSt E w l d) (ss : List ByteArray) (hne : ∀ s ∈ ss, 0 < s.size) (hn : ss.length ≤ 8) (hg : g = w.heap.size) (hm : m = ss.length) (hc : c = ss.length) :
    Calls Tryd.prog 85 #[.pointer (some ⟨E.pb, 0, none⟩), .slice (some ⟨g, 0, none⟩) m c] (w.alloc (.cells (ss.map Value.string).toArray 9)) (PPost VTok E w l d (expectP ss l)) := by
  subst hg hm hc
  exact expect_any h ss hne hn
end

end Go.Proofs.YtnmpfpnldcgbaaaDoor
