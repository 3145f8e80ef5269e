/- The contracts of the parser's methods that look at the next token or take it: peek, take, misplaced, is, accept, expectKind, name, number. -/
import Derived.Test.YtflhniiemmahmaaDoorTree
import Derived.RegionTactic
import Derived.ChangeAlike
import Derived.BigRegion
namespace Go.Proofs.YtflhniiemmahmaaDoor
open Go.RowKit

set_option maxRecDepth 100000 in
set_option maxHeartbeats 400000 in
theorem peek_any {E : Env} {w : World} {l : List Tok} {d : Nat} (h : PSt E w l d) :
    Calls Tryd.prog 44 #[.pointer (some ⟨E.pb, 0, none⟩)] w fun e w' => e = .returned (tokV (hdT l)) ∧ Below w.heap.size w w' := by
  obtain ⟨c0, c1, _, _⟩ := h.cell
  obtain ⟨t0, t1, t2, t3⟩ := h.tok
  have hk : E.ts.length - l.length < E.ts.length := by have := h.head.1; have := h.le; omega
  have hlen := h.len
  have hp := h.plt
  have ht := h.tlt
  generalize E.ts.length - l.length = k at *
  clear h
  go_enter Tryd.func44, Tryd.ntmps44
  go_wp2
  go_region
  go_wp2
  exact bodyPost_ret (v := tokV (hdT l)) (by simp [results, Tryd.results44, go_sem, tokV]) rfl ⟨rfl, ((Below.refl _ _).alloc (Nat.le_refl _) _).drew⟩

def zeroTokCells : List Value := [.int .i64 0, .string ⟨#[]⟩, .int .i64 0, .int .i64 0]

set_option maxRecDepth 100000 in
set_option maxHeartbeats 400000 in
theorem take_any {E : Env} {w : World} {l : List Tok} {d : Nat} (h : PSt E w l d) (he : Ends l.tail) :
    Calls Tryd.prog 68 #[.pointer (some ⟨E.pb, 0, none⟩)] w fun e w' => e = .returned (tokV (hdT l)) ∧ PSt E w' l.tail d ∧ Kp E.pb w w' := by
  go_enter Tryd.func68, Tryd.ntmps68
  go_wp2_with fail
  refine (peek_any (h.alloc _)).mono ?_
  rintro e w1 ⟨rfl, hb⟩
  have hk1 : Kp E.pb (w.alloc _) w1 := .of_below hb
  have hs := (h.alloc _).below hb
  obtain ⟨c0, c1, c2, cf⟩ := hs.cell
  have hlen := h.len
  have hp := hs.plt
  have hpw := h.plt
  have htw := h.tlt
  have HST := Lib.hid (hs.step he)
  have HK := Lib.hid (((Kp.refl E.pb w).alloc _).trans hk1)
  have HR := Lib.hid ((Blk.new w zeroTokCells 50).kp hk1 (by omega))
  have hsz : w.heap.size < w1.heap.size := by have := hb.size; simp at this; omega
  clear hb hs h hk1
  unfold tokV
  generalize hkk : E.ts.length - l.length = k at *
  have hkb : k ≤ 16385 := by omega
  clear hkk
  go_wp2_with ((with_reducible refine at_st 50 (.tmp 2) ?_); refine wpList_store_blk rfl 50 (.tmp 2) (.tmp 13) rfl w.heap.size (tokCells (hdT l)) rfl rfl ((HR.out.setOther ⟨E.pb, 1, none⟩ _ (by show _ ≠ E.pb; omega)).alloc _) Tryd.sizeTok rfl (tokCells_one _) ?_)
  exact ret_blk (cs := tokCells (hdT l)) Tryd.results68 rfl ((HR.out.setOther ⟨E.pb, 1, none⟩ _ (by show _ ≠ E.pb; omega)).alloc _) Tryd.underlying50 rfl Tryd.sizeTok rfl ⟨rfl, (HST.out.alloc _).setRow (by omega) (by omega) _, ((HK.out.setPb _ _).alloc _).setRow (Nat.le_refl _) _⟩

set_option maxRecDepth 100000 in
set_option maxHeartbeats 400000 in
theorem misplaced_any {E : Env} {w : World} {l : List Tok} {d : Nat} (h : PSt E w l d) :
    Calls Tryd.prog 69 #[.pointer (some ⟨E.pb, 0, none⟩)] w fun e w' => e = .returned (.agg #[.int .i64 (hdT l).place, .int .i64 20]) ∧ Below w.heap.size w w' := by
  go_enter Tryd.func69, Tryd.ntmps69
  go_wp2_with fail
  refine (peek_any (h.alloc _)).mono ?_
  rintro e w1 ⟨rfl, hb⟩
  have HB := Lib.hid (((Below.refl w.heap.size w).alloc (Nat.le_refl _) _).trans (hb.mono (by simp)))
  obtain ⟨hc, hf⟩ := bcell hb
  clear hb h
  unfold tokV
  have fl0 := fldTok0
  have fl1 := fldTok1
  have fl2 := fldTok2
  have fl3 := fldTok3
  go_wp2
  exact bodyPost_ret (v := .agg #[.int .i64 (hdT l).place, .int .i64 20]) (by simp [results, Tryd.results69, go_sem, hc]) rfl ⟨rfl, (HB.out.setCell (Nat.le_refl _) _).setCell (Nat.le_refl _) _⟩

set_option maxRecDepth 100000 in
set_option maxHeartbeats 400000 in
theorem is_any {E : Env} {w : World} {l : List Tok} {d : Nat} (h : PSt E w l d) (s : ByteArray) :
    Calls Tryd.prog 67 #[.pointer (some ⟨E.pb, 0, none⟩), .string s] w fun e w' => e = .returned (.bool (isT (hdT l) s)) ∧ Below w.heap.size w w' := by
  go_enter Tryd.func67, Tryd.ntmps67
  go_wp2_with fail
  refine (peek_any h).mono ?_
  rintro e w1 ⟨rfl, hb⟩
  have HB := Lib.hid hb
  clear hb h
  unfold tokV
  have fl0 := fldTok0
  have fl1 := fldTok1
  have fl2 := fldTok2
  have fl3 := fldTok3
  go_wp2
  go_ret
  exact ⟨rfl, HB.out⟩

set_option maxRecDepth 100000 in
set_option maxHeartbeats 400000 in
theorem accept_no {E : Env} {w : World} {l : List Tok} {d : Nat} (h : PSt E w l d) {s : ByteArray} (hi : isT (hdT l) s = false) :
    Calls Tryd.prog 72 #[.pointer (some ⟨E.pb, 0, none⟩), .string s] w fun e w' => e = .returned (.bool false) ∧ Below w.heap.size w w' := by
  go_enter Tryd.func72, Tryd.ntmps72
  go_wp2_with fail
  refine (is_any h s).mono ?_
  rintro e w1 ⟨rfl, hb⟩
  rw [hi]
  have HB := Lib.hid hb
  clear hb h hi
  go_wp2
  go_ret
  exact ⟨rfl, HB.out⟩

set_option maxRecDepth 100000 in
set_option maxHeartbeats 400000 in
theorem accept_yes {E : Env} {w : World} {l : List Tok} {d : Nat} (h : PSt E w l d) {s : ByteArray} (hi : isT (hdT l) s = true) (hs : 0 < s.size) :
    Calls Tryd.prog 72 #[.pointer (some ⟨E.pb, 0, none⟩), .string s] w fun e w' => e = .returned (.bool true) ∧ PSt E w' l.tail d ∧ Kp E.pb w w' := by
  go_enter Tryd.func72, Tryd.ntmps72
  go_wp2_with fail
  refine (is_any h s).mono ?_
  rintro e w1 ⟨rfl, hb⟩
  rw [hi]
  have h1 := h.below hb
  obtain ⟨c0, c1, c2, cf⟩ := h1.cell
  have hp := h1.plt
  have hlen := h.len
  have HST := Lib.hid (h1.step (h.ends.tail_is hi hs))
  have HK := Lib.hid (Kp.of_below (pb := E.pb) hb)
  clear hb h h1 hi hs
  generalize hkk : E.ts.length - l.length = k at *
  have hkb : k ≤ 16385 := by omega
  clear hkk
  go_wp2
  go_ret
  exact ⟨rfl, HST.out, HK.out.setPb _ _⟩

set_option maxRecDepth 100000 in
set_option maxHeartbeats 400000 in
theorem expectKind_any {E : Env} {w : World} {l : List Tok} {d : Nat} (h : PSt E w l d) (k : Nat) (hk0 : 0 < k) :
    Calls Tryd.prog 82 #[.pointer (some ⟨E.pb, 0, none⟩), .int .i64 k] w (PPost VTok E w l d (kindP k l)) := by
  have hR := (Run.start h).alloc (.cells zeroTokCells.toArray 50)
  go_enter Tryd.func82, Tryd.ntmps82
  go_wp2_with fail
  refine (peek_any (h.alloc _)).mono ?_
  rintro e w1 ⟨rfl, hb⟩
  have hR1 := hR.below hb
  have HB := Lib.hid ((Blk.new w zeroTokCells 50).kp (Kp.of_below (pb := E.pb) hb) (by have := h.plt; omega))
  have HR := Lib.hid hR1
  have HL := Lib.hid (tail_lt h)
  have HO := Lib.hid h.headOK
  have HE := Lib.hid h.ends
  clear hb h hR hR1
  by_cases hk : (hdT l).kind = k
  · have HP := Lib.hid (show kindP k l = .ok (hdT l, l.tail) by unfold kindP; rw [beq_iff_eq.2 hk]; rfl)
    have hb : ((((hdT l).kind : Int)) != (k : Int)) = false := by simp [hk]
    have HT := Lib.hid (HE.out.tail (by omega))
    clear hk
    unfold tokV
    have fl0 := fldTok0
    have fl1 := fldTok1
    have fl2 := fldTok2
    have fl3 := fldTok3
    go_wp2_with fail
    refine (take_any HR.out.st HT.out).mono ?_
    rintro e w2 ⟨rfl, hs2, hk2⟩
    have HR2 := Lib.hid (HR.out.call hk2 hs2)
    have HB2 := Lib.hid (HB.out.kp hk2 (by have := HR.out.lo; omega))
    clear hs2 hk2
    go_wp2_with ((with_reducible refine at_st 50 (.tmp 4) ?_); refine wpList_store_blk rfl 50 (.tmp 4) (.tmp 14) rfl w.heap.size (tokCells (hdT l)) rfl rfl HB2.out Tryd.sizeTok rfl (tokCells_one _) ?_)
    exact ret_blk (cs := tokCells (hdT l)) Tryd.results82 rfl HB2.out Tryd.underlying50 rfl Tryd.sizeTok rfl
      (.mk_ok HP.out rfl ⟨rfl, HO.out⟩ (HR2.out.setRow (Nat.le_refl _) _).st HL.out (HR2.out.setRow (Nat.le_refl _) _).kp)
  · have HP := Lib.hid (show kindP k l = .error ((hdT l).place, 20) by unfold kindP; rw [beq_eq_false_iff_ne.2 hk]; rfl)
    have hb : ((((hdT l).kind : Int)) != (k : Int)) = true := by simp; omega
    clear hk
    unfold tokV
    have fl0 := fldTok0
    have fl1 := fldTok1
    have fl2 := fldTok2
    have fl3 := fldTok3
    go_wp2_with fail
    refine (misplaced_any HR.out.st).mono ?_
    rintro e w2 ⟨rfl, hb2⟩
    have HR2 := Lib.hid (HR.out.below hb2)
    clear hb2
    go_wp2
    exact ⟨rfl, Run.err HR2.out.kp HP.out (.inl rfl)⟩

set_option maxRecDepth 100000 in
set_option maxHeartbeats 400000 in
theorem name_any {E : Env} {w : World} {l : List Tok} {d : Nat} (h : PSt E w l d) :
    Calls Tryd.prog 70 #[.pointer (some ⟨E.pb, 0, none⟩)] w (PPost VStr E w l d (nameP l)) := by
  go_enter Tryd.func70, Tryd.ntmps70
  go_wp2_with fail
  refine (expectKind_any h 1 (by omega)).mono ?_
  intro e w1 hp
  cases hr : kindP 1 l with
  | error pc =>
    obtain ⟨p, c⟩ := pc
    obtain ⟨rfl, hk, hcd⟩ := hp.err hr
    go_wp2
    exact ⟨rfl, Run.err hk (by unfold nameP; exact bd_err hr _) hcd⟩
  | ok q =>
    obtain ⟨t, l1⟩ := q
    obtain ⟨v, rfl, ⟨rfl, ho⟩, hs, hl, hk⟩ := hp.ok hr
    have HP := Lib.hid (show nameP l = .ok (t.text, l1) by unfold nameP; exact bd_ok hr _)
    have HS := Lib.hid hs
    have HK := Lib.hid hk
    have HL := Lib.hid hl
    clear hr hp h hs hk hl
    unfold tokV
    have fl0 := fldTok0
    have fl1 := fldTok1
    have fl2 := fldTok2
    have fl3 := fldTok3
    go_wp2
    go_ret
    exact .mk_ok HP.out rfl rfl HS.out HL.out HK.out

set_option maxRecDepth 100000 in
set_option maxHeartbeats 400000 in
theorem number_any {E : Env} {w : World} {l : List Tok} {d : Nat} (h : PSt E w l d) :
    Calls Tryd.prog 92 #[.pointer (some ⟨E.pb, 0, none⟩)] w (PPost VNum E w l d (numberP l)) := by
  go_enter Tryd.func92, Tryd.ntmps92
  go_wp2_with fail
  refine (expectKind_any h 3 (by omega)).mono ?_
  intro e w1 hp
  cases hr : kindP 3 l with
  | error pc =>
    obtain ⟨p, c⟩ := pc
    obtain ⟨rfl, hk, hcd⟩ := hp.err hr
    go_wp2
    exact ⟨rfl, Run.err hk (by unfold numberP; exact bd_err hr _) hcd⟩
  | ok q =>
    obtain ⟨t, l1⟩ := q
    obtain ⟨v, rfl, ⟨rfl, ho⟩, hs, hl, hk⟩ := hp.ok hr
    have HP := Lib.hid (show numberP l = .ok ((t.num : Int), l1) by unfold numberP; exact bd_ok hr _)
    have HS := Lib.hid hs
    have HK := Lib.hid hk
    have HL := Lib.hid hl
    have HN := Lib.hid ho.num
    clear hr hp h hs hk hl ho
    unfold tokV
    have fl0 := fldTok0
    have fl1 := fldTok1
    have fl2 := fldTok2
    have fl3 := fldTok3
    go_wp2
    go_ret
    exact .mk_ok HP.out rfl ⟨rfl, by omega, by have := HN.out; omega⟩ HS.out HL.out HK.out

end Go.Proofs.YtflhniiemmahmaaDoor
