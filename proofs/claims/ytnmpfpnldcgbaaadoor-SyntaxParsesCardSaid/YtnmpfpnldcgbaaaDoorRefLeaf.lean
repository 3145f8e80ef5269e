/- The document's parser (lychgateref02) in memory while it reads (RSt), and the contracts of the functions that look at the next token. The contracts of lychgateref02.must, number and name, from a good state and from one that has a fault. -/
import Derived.Test.YtnmpfpnldcgbaaaDoorExpect
import Derived.Test.YtnmpfpnldcgbaaaDoorFirst
import Derived.Deep.QuietTactic
import Derived.BigQuiet
import Derived.Test.YtnmpfpnldcgbaaaDoorRefTree
namespace Go.Proofs.YtnmpfpnldcgbaaaDoor
section
open Go.RowKit

/- A text that is a key word or a sign. -/
def keySign (s : ByteArray) : Bool := keyList.contains s.data.toList || isPair s.data.toList || (s.size == 1 && isSingle (s.data.toList.getD 0 0))
/- A token whose text is a key word or a sign is of these kinds. -/
def KeyOK (t : Tok) : Prop := keySign t.text = true → t.kind = 2 ∨ t.kind = 4

structure RSt (E : Env) (w : World) (l : List Tok) (d : Nat) (f : Int) (q : Nat) : Prop where
  le : l.length ≤ E.ts.length
  suf : l = E.ts.drop (E.ts.length - l.length)
  blk : Blk w E.pb [.slice (some ⟨E.tb, 0, none⟩) E.ts.length E.cap, .int .i64 ((E.ts.length - l.length : Nat) : Int), .int .i64 d, .int .i64 f, .int .i64 q] 83
  row : RowAt w E.tb E.ts
  ne : E.tb ≠ E.pb
  tlt : E.tb < w.heap.size
  ends : Ends l
  ok : ∀ t ∈ E.ts, TokOK t
  key : ∀ t ∈ E.ts, KeyOK t
  len : E.ts.length ≤ 16385
  capb : E.ts.length ≤ E.cap
  deep : d ≤ 8

section
variable {E : Env} {w w' : World} {l : List Tok} {d : Nat} {f : Int} {q : Nat}
theorem RSt.plt (h : RSt E w l d f q) : E.pb < w.heap.size := h.blk.lt
theorem RSt.head (h : RSt E w l d f q) : 0 < l.length ∧ E.ts[E.ts.length - l.length]? = some (hdT l) := by
  obtain ⟨t, r, rfl⟩ := h.ends.ne
  refine ⟨by simp, ?_⟩
  have h1 : (E.ts.drop (E.ts.length - (t :: r).length))[0]? = some t := by rw [← h.suf]; rfl
  rw [List.getElem?_drop] at h1
  exact h1
theorem RSt.tok (h : RSt E w l d f q) :
    w.cell? ⟨E.tb, (E.ts.length - l.length) * 4, none⟩ = some (.int .i64 (hdT l).kind) ∧ w.cell? ⟨E.tb, (E.ts.length - l.length) * 4 + 1, none⟩ = some (.string (hdT l).text) ∧
    w.cell? ⟨E.tb, (E.ts.length - l.length) * 4 + 2, none⟩ = some (.int .i64 (hdT l).num) ∧ w.cell? ⟨E.tb, (E.ts.length - l.length) * 4 + 3, none⟩ = some (.int .i64 (hdT l).place) :=
  h.row _ _ h.head.2
theorem RSt.headOK (h : RSt E w l d f q) : TokOK (hdT l) := h.ok _ (List.mem_of_getElem? h.head.2)
theorem RSt.headKey (h : RSt E w l d f q) : KeyOK (hdT l) := h.key _ (List.mem_of_getElem? h.head.2)
theorem RSt.same (h : RSt E w l d f q) (hs : w.heap.size ≤ w'.heap.size) (hp : w'.heap[E.pb]? = w.heap[E.pb]?) (ht : w'.heap[E.tb]? = w.heap[E.tb]?) : RSt E w' l d f q :=
  ⟨h.le, h.suf, hp.trans h.blk, h.row.same ht, h.ne, Nat.lt_of_lt_of_le h.tlt hs, h.ends, h.ok, h.key, h.len, h.capb, h.deep⟩
theorem RSt.below (h : RSt E w l d f q) (hb : Below w.heap.size w w') : RSt E w' l d f q := h.same hb.size (hb.block _ h.plt) (hb.block _ h.tlt)
theorem RSt.alloc (h : RSt E w l d f q) (o : Obj) : RSt E (w.alloc o) l d f q := h.same (by simp) (Below.heap_alloc w o _ h.plt) (Below.heap_alloc w o _ h.tlt)
/- A cell of the parser is written. -/
theorem RSt.setI (h : RSt E w l d f q) (he : Ends l.tail) : RSt E (w.setCell ⟨E.pb, 1, none⟩ (.int .i64 (((E.ts.length - l.length : Nat) : Int) + 1))) l.tail d f q := by
  have h1 := h.head.1
  have h2 := h.le
  have e1 : E.ts.length - l.tail.length = E.ts.length - l.length + 1 := by rw [List.length_tail]; omega
  refine ⟨by rw [List.length_tail]; omega, ?_, ?_, h.row.same (Below.heap_setCell _ _ _ _ h.ne), h.ne, by simpa [World.setCell] using h.tlt, he, h.ok, h.key, h.len, h.capb, h.deep⟩
  · rw [e1, ← List.drop_drop, ← h.suf]
    cases l <;> rfl
  · have h3 := h.blk.setSame 1 (.int .i64 (((E.ts.length - l.length : Nat) : Int) + 1))
    rw [e1]
    exact h3
theorem RSt.setF (h : RSt E w l d f q) (f' : Int) : RSt E (w.setCell ⟨E.pb, 3, none⟩ (.int .i64 f')) l d f' q :=
  ⟨h.le, h.suf, h.blk.setSame 3 _, h.row.same (Below.heap_setCell _ _ _ _ h.ne), h.ne, by simpa [World.setCell] using h.tlt, h.ends, h.ok, h.key, h.len, h.capb, h.deep⟩
theorem RSt.setQ (h : RSt E w l d f q) (q' : Nat) : RSt E (w.setCell ⟨E.pb, 4, none⟩ (.int .i64 q')) l d f q' :=
  ⟨h.le, h.suf, h.blk.setSame 4 _, h.row.same (Below.heap_setCell _ _ _ _ h.ne), h.ne, by simpa [World.setCell] using h.tlt, h.ends, h.ok, h.key, h.len, h.capb, h.deep⟩
end

theorem keyOK_is {t : Tok} {s : ByteArray} (hk : KeyOK t) (hs : keySign s = true) (h : isT t s = true) : t.kind = 2 ∨ t.kind = 4 := by
  have h1 := beq_iff_eq.1 (show (t.text.toList == s.toList) = true from h)
  rw [ByteArray.toList_eq, ByteArray.toList_eq] at h1
  unfold KeyOK at hk
  rw [bytes_ext h1] at hk
  exact hk hs

theorem below_dr {B : Nat} {a w : World} (h : Below B a w) (n : Nat) : Below B a (w.drewN n) := ⟨h.os, h.tape, h.output, h.size, h.block⟩

set_option maxRecDepth 100000 in
set_option maxHeartbeats 1000000 in
theorem ris_any {E : Env} {w : World} {l : List Tok} {d : Nat} {f : Int} {q : Nat} (h : RSt E w l d f q) (s : ByteArray) (hs : keySign s = true) :
    Calls Tryd.prog 54 #[.pointer (some ⟨E.pb, 0, none⟩), .string s] w fun e w' => e = .returned (.bool (f == 0 && isT (hdT l) s)) ∧ Below w.heap.size w w' := by
  have c0 : w.cell? ⟨E.pb, 0, none⟩ = some (.slice (some ⟨E.tb, 0, none⟩) E.ts.length E.cap) := h.blk.cell 0
  have c1 : w.cell? ⟨E.pb, 1, none⟩ = some (.int .i64 ((E.ts.length - l.length : Nat) : Int)) := h.blk.cell 1
  have c3 : w.cell? ⟨E.pb, 3, none⟩ = some (.int .i64 f) := h.blk.cell 3
  obtain ⟨t0, t1, t2, t3⟩ := h.tok
  have hk : E.ts.length - l.length < E.ts.length := by have := h.head.1; have := h.le; omega
  have hlen := h.len
  have hcap := h.capb
  have hway : (f == 0) = false ∨ ((f == 0) = true ∧ (hdT l).kind = 2) ∨ ((f == 0) = true ∧ (hdT l).kind = 4) ∨ ((f == 0) = true ∧ ((((hdT l).kind : Int) == 2) = false ∧ (((hdT l).kind : Int) == 4) = false) ∧ isT (hdT l) s = false) := by
    cases hf : (f == 0) with
    | false => exact .inl rfl
    | true =>
      by_cases h2 : (hdT l).kind = 2
      · exact .inr (.inl ⟨rfl, h2⟩)
      · by_cases h4 : (hdT l).kind = 4
        · exact .inr (.inr (.inl ⟨rfl, h4⟩))
        · refine .inr (.inr (.inr ⟨rfl, ⟨by simp; omega, by simp; omega⟩, ?_⟩))
          cases hi : isT (hdT l) s with
          | false => rfl
          | true => rcases keyOK_is h.headKey hs hi with h' | h' <;> omega
  have ix1 : (0 : Int) ≤ ((E.ts.length - l.length : Nat) : Int) := by omega
  have ix2 : (((E.ts.length - l.length : Nat) : Int)) < (E.ts.length : Int) := by omega
  generalize E.ts.length - l.length = k at *
  generalize hT : hdT l = t at *
  clear h hT
  rcases hway with hf | ⟨hf, h2⟩ | ⟨hf, h2⟩ | ⟨hf, ⟨h2, h4⟩, hi⟩
  · rw [hf]
    go_enter Tryd.func54, Tryd.ntmps54
    go_wp2
    go_quiet (fail)
    go_wp2
    go_quiet (fail)
    go_wp2
    go_ret
    exact ⟨rfl, below_dr (below_dr (Below.refl _ _) _) _⟩
  · have e2 : ((t.kind : Int) == 2) = true := by rw [h2]; rfl
    have HF := Lib.hid hf
    cases hi : (t.text.toList == s.toList) with
    | true =>
      have HI := Lib.hid hi
      go_enter Tryd.func54, Tryd.ntmps54
      go_wp2
      go_quiet (fail)
      go_wp2
      go_quiet (fail)
      go_wp2
      go_ret
      exact ⟨ret_bool (by unfold isT; rw [HF.out, HI.out]; rfl), below_dr (below_dr (Below.refl _ _) _) _⟩
    | false =>
      have HI := Lib.hid hi
      go_enter Tryd.func54, Tryd.ntmps54
      go_wp2
      go_quiet (fail)
      go_wp2
      go_quiet (fail)
      go_wp2
      go_ret
      exact ⟨ret_bool (by unfold isT; rw [HF.out, HI.out]; rfl), below_dr (below_dr (Below.refl _ _) _) _⟩
  · have e2 : ((t.kind : Int) == 2) = false := by rw [h2]; rfl
    have e4 : ((t.kind : Int) == 4) = true := by rw [h2]; rfl
    have HF := Lib.hid hf
    cases hi : (t.text.toList == s.toList) with
    | true =>
      have HI := Lib.hid hi
      go_enter Tryd.func54, Tryd.ntmps54
      go_wp2
      go_quiet (fail)
      go_wp2
      go_quiet (fail)
      go_wp2
      go_ret
      exact ⟨ret_bool (by unfold isT; rw [HF.out, HI.out]; rfl), below_dr (below_dr (Below.refl _ _) _) _⟩
    | false =>
      have HI := Lib.hid hi
      go_enter Tryd.func54, Tryd.ntmps54
      go_wp2
      go_quiet (fail)
      go_wp2
      go_quiet (fail)
      go_wp2
      go_ret
      exact ⟨ret_bool (by unfold isT; rw [HF.out, HI.out]; rfl), below_dr (below_dr (Below.refl _ _) _) _⟩
  · have HF := Lib.hid hf
    have HI := Lib.hid hi
    clear hi
    go_enter Tryd.func54, Tryd.ntmps54
    go_wp2
    go_quiet (fail)
    go_wp2
    go_quiet (fail)
    go_wp2
    go_ret
    exact ⟨ret_bool (by rw [HF.out, HI.out]; rfl), below_dr (below_dr (Below.refl _ _) _) _⟩

set_option maxRecDepth 100000 in
set_option maxHeartbeats 1000000 in
theorem rhas_no {E : Env} {w : World} {l : List Tok} {d : Nat} {f : Int} {q : Nat} (h : RSt E w l d f q) (s : ByteArray) (hs : keySign s = true) (hc : (f == 0 && isT (hdT l) s) = false) :
    Calls Tryd.prog 34 #[.pointer (some ⟨E.pb, 0, none⟩), .string s] w fun e w' => e = .returned (.bool false) ∧ Below w.heap.size w w' := by
  have HC := Lib.hid hc
  clear hc
  go_enter Tryd.func34, Tryd.ntmps34
  go_wp2_with fail
  refine (ris_any h s hs).mono ?_
  rintro e w1 ⟨rfl, hb⟩
  rw [HC.out]
  have HB := Lib.hid hb
  clear hb h
  go_wp2
  go_ret
  exact ⟨rfl, HB.out⟩

set_option maxRecDepth 100000 in
set_option maxHeartbeats 1000000 in
theorem rhas_yes {E : Env} {w : World} {l : List Tok} {d : Nat} {q : Nat} (h : RSt E w l d 0 q) (s : ByteArray) (hs : keySign s = true) (hp : 0 < s.size) (hi : isT (hdT l) s = true) :
    Calls Tryd.prog 34 #[.pointer (some ⟨E.pb, 0, none⟩), .string s] w fun e w' => e = .returned (.bool true) ∧ RSt E w' l.tail d 0 q ∧ Kp E.pb w w' := by
  have HI := Lib.hid (show (((0 : Int) == 0) && isT (hdT l) s) = true by rw [hi]; rfl)
  have HE := Lib.hid (h.ends.tail_is hi hp)
  have H := Lib.hid h
  have hlen := h.len
  clear hi
  go_enter Tryd.func34, Tryd.ntmps34
  go_wp2_with fail
  refine (ris_any h s hs).mono ?_
  rintro e w1 ⟨rfl, hb⟩
  rw [HI.out]
  have HS := Lib.hid (H.out.below hb)
  have HK := Lib.hid (Kp.of_below (pb := E.pb) hb)
  clear hb h
  have c1 : w1.cell? ⟨E.pb, 1, none⟩ = some (.int .i64 ((E.ts.length - l.length : Nat) : Int)) := HS.out.blk.cell 1
  have cf := HS.out.blk.frozen 1
  have HN := Lib.hid (HS.out.setI HE.out)
  have HKN := Lib.hid (HK.out.setPb 1 (.int .i64 (((E.ts.length - l.length : Nat) : Int) + 1)))
  have hkb : E.ts.length - l.length ≤ 16385 := by omega
  generalize E.ts.length - l.length = k at *
  go_wp2
  go_ret
  exact ⟨rfl, HN.out, HKN.out⟩

set_option maxRecDepth 100000 in
set_option maxHeartbeats 1000000 in
theorem rfail_bad {E : Env} {w : World} {l : List Tok} {d : Nat} {f : Int} {q : Nat} (h : RSt E w l d f q) (hf : (f == 0) = false) (c : Int) :
    Calls Tryd.prog 57 #[.pointer (some ⟨E.pb, 0, none⟩), .int .i64 c] w fun e w' => e = .returned (.tuple #[]) ∧ w = w' := by
  have c3 : w.cell? ⟨E.pb, 3, none⟩ = some (.int .i64 f) := h.blk.cell 3
  clear h
  go_enter Tryd.func57, Tryd.ntmps57
  go_wp2
  go_end0
  exact ⟨rfl, rfl⟩

set_option maxRecDepth 100000 in
set_option maxHeartbeats 2000000 in
theorem rfail_ok {E : Env} {w : World} {l : List Tok} {d : Nat} {q : Nat} (h : RSt E w l d 0 q) (c : Int) :
    Calls Tryd.prog 57 #[.pointer (some ⟨E.pb, 0, none⟩), .int .i64 c] w fun e w' => e = .returned (.tuple #[]) ∧ RSt E w' l d c (hdT l).place ∧ Kp E.pb w w' := by
  have HN := Lib.hid ((h.setF c).setQ (hdT l).place)
  have HKN := Lib.hid (((Kp.refl E.pb w).setPb 3 (.int .i64 c)).setPb 4 (.int .i64 (hdT l).place))
  have hne := h.ne
  have H1 := Lib.hid (h.setF c)
  have c3 : w.cell? ⟨E.pb, 3, none⟩ = some (.int .i64 0) := h.blk.cell 3
  have f3 := h.blk.frozen 3
  have hk : E.ts.length - l.length < E.ts.length := by have := h.head.1; have := h.le; omega
  have hlen := h.len
  have hcap := h.capb
  have ix1 : (0 : Int) ≤ ((E.ts.length - l.length : Nat) : Int) := by omega
  have ix2 : (((E.ts.length - l.length : Nat) : Int)) < (E.ts.length : Int) := by omega
  clear h
  go_enter Tryd.func57, Tryd.ntmps57
  go_wp2
  generalize hw1 : w.setCell ⟨E.pb, 3, none⟩ (.int .i64 c) = w1 at HN HKN H1 ⊢
  have d0 : w1.cell? ⟨E.pb, 0, none⟩ = some (.slice (some ⟨E.tb, 0, none⟩) E.ts.length E.cap) := H1.out.blk.cell 0
  have d1 : w1.cell? ⟨E.pb, 1, none⟩ = some (.int .i64 ((E.ts.length - l.length : Nat) : Int)) := H1.out.blk.cell 1
  have d4 : w1.cell? ⟨E.pb, 4, none⟩ = some (.int .i64 q) := H1.out.blk.cell 4
  have f4 := H1.out.blk.frozen 4
  obtain ⟨t0, t1, t2, t3⟩ := H1.out.tok
  clear hw1 c3 f3
  generalize E.ts.length - l.length = k at *
  go_region
  all_goals go_end0
  all_goals exact ⟨rfl, ⟨HN.out.le, HN.out.suf, HN.out.blk, HN.out.row, HN.out.ne, HN.out.tlt, HN.out.ends, HN.out.ok, HN.out.key, HN.out.len, HN.out.capb, HN.out.deep⟩, ⟨HKN.out.os, HKN.out.tape, HKN.out.output, HKN.out.size, HKN.out.block⟩⟩
end

section
open Go.RowKit

theorem good_is {l : List Tok} {s : ByteArray} {b : Bool} (hi : isT (hdT l) s = b) : (((0 : Int) == 0) && isT (hdT l) s) = b := by rw [hi]; cases b <;> rfl
theorem bad_is {f : Int} (hf : (f == 0) = false) (b : Bool) : (f == 0 && b) = false := by rw [hf]; rfl

set_option maxRecDepth 100000 in
set_option maxHeartbeats 1000000 in
theorem rmust_yes {E : Env} {w : World} {l : List Tok} {d : Nat} {q : Nat} (h : RSt E w l d 0 q) (s : ByteArray) (hs : keySign s = true) (hp : 0 < s.size) (hi : isT (hdT l) s = true) :
    Calls Tryd.prog 36 #[.pointer (some ⟨E.pb, 0, none⟩), .string s] w fun e w' => e = .returned (.tuple #[]) ∧ RSt E w' l.tail d 0 q ∧ Kp E.pb w w' := by
  go_enter Tryd.func36, Tryd.ntmps36
  go_wp2_with fail
  refine (rhas_yes h s hs hp hi).mono ?_
  rintro e w1 ⟨rfl, h1, hk⟩
  have H1 := Lib.hid h1
  have HK := Lib.hid hk
  clear h1 hk h hi
  go_wp2
  go_end0
  exact ⟨rfl, H1.out, HK.out⟩
set_option maxRecDepth 100000 in
set_option maxHeartbeats 1000000 in
theorem rmust_no {E : Env} {w : World} {l : List Tok} {d : Nat} {q : Nat} (h : RSt E w l d 0 q) (s : ByteArray) (hs : keySign s = true) (hi : isT (hdT l) s = false) :
    Calls Tryd.prog 36 #[.pointer (some ⟨E.pb, 0, none⟩), .string s] w fun e w' => e = .returned (.tuple #[]) ∧ RSt E w' l d 20 (hdT l).place ∧ Kp E.pb w w' := by
  go_enter Tryd.func36, Tryd.ntmps36
  go_wp2_with fail
  refine (rhas_no h s hs (good_is hi)).mono ?_
  rintro e w1 ⟨rfl, hb⟩
  have H1 := Lib.hid (h.below hb)
  have HK := Lib.hid (Kp.of_below (pb := E.pb) hb)
  clear hb h hi
  go_wp2_with fail
  refine (rfail_ok H1.out 20).mono ?_
  rintro e w2 ⟨rfl, h2, hk2⟩
  have H2 := Lib.hid h2
  have HK2 := Lib.hid (HK.out.trans hk2)
  clear h2 hk2
  go_wp2
  go_end0
  exact ⟨rfl, H2.out, HK2.out⟩
set_option maxRecDepth 100000 in
set_option maxHeartbeats 1000000 in
theorem rmust_bad {E : Env} {w : World} {l : List Tok} {d : Nat} {f : Int} {q : Nat} (h : RSt E w l d f q) (hf : (f == 0) = false) (s : ByteArray) (hs : keySign s = true) :
    Calls Tryd.prog 36 #[.pointer (some ⟨E.pb, 0, none⟩), .string s] w fun e w' => e = .returned (.tuple #[]) ∧ Below w.heap.size w w' := by
  have HF := Lib.hid hf
  clear hf
  go_enter Tryd.func36, Tryd.ntmps36
  go_wp2_with fail
  refine (rhas_no h s hs (bad_is HF.out _)).mono ?_
  rintro e w1 ⟨rfl, hb⟩
  have H1 := Lib.hid (h.below hb)
  have HB := Lib.hid hb
  clear hb h
  go_wp2_with fail
  refine (rfail_bad H1.out HF.out 20).mono ?_
  rintro e w2 ⟨rfl, rfl⟩
  go_wp2
  go_end0
  exact ⟨rfl, HB.out⟩

theorem RSt.drew {E : Env} {w : World} {l : List Tok} {d : Nat} {f : Int} {q : Nat} (h : RSt E w l d f q) : RSt E w.drew l d f q := h.same (Nat.le_refl _) rfl rfl
set_option maxRecDepth 100000 in
set_option maxHeartbeats 2000000 in
theorem rnumber_ok {E : Env} {w : World} {l : List Tok} {d : Nat} {q : Nat} (h : RSt E w l d 0 q) (hk3 : ((hdT l).kind == 3) = true) :
    Calls Tryd.prog 89 #[.pointer (some ⟨E.pb, 0, none⟩)] w fun e w' => e = .returned (.int .i64 (hdT l).num) ∧ RSt E w' l.tail d 0 q ∧ Kp E.pb w w' := by
  have hk : (hdT l).kind = 3 := beq_iff_eq.1 hk3
  have HN := Lib.hid (h.setI (h.ends.tail (by omega)))
  have HKN := Lib.hid ((Kp.refl E.pb w).setPb 1 (.int .i64 (((E.ts.length - l.length : Nat) : Int) + 1)))
  have c0 : w.cell? ⟨E.pb, 0, none⟩ = some (.slice (some ⟨E.tb, 0, none⟩) E.ts.length E.cap) := h.blk.cell 0
  have c1 : w.cell? ⟨E.pb, 1, none⟩ = some (.int .i64 ((E.ts.length - l.length : Nat) : Int)) := h.blk.cell 1
  have c3 : w.cell? ⟨E.pb, 3, none⟩ = some (.int .i64 0) := h.blk.cell 3
  have cf := h.blk.frozen 1
  obtain ⟨t0, t1, t2, t3⟩ := h.tok
  have hkl : E.ts.length - l.length < E.ts.length := by have := h.head.1; have := h.le; omega
  have hlen := h.len
  have hcap := h.capb
  have hplt := h.plt
  have htlt := h.tlt
  have ix1 : (0 : Int) ≤ ((E.ts.length - l.length : Nat) : Int) := by omega
  have ix2 : (((E.ts.length - l.length : Nat) : Int)) < (E.ts.length : Int) := by omega
  rw [hk] at t0
  generalize E.ts.length - l.length = k at *
  clear h hk3 hk
  go_enter Tryd.func89, Tryd.ntmps89
  go_wp2
  go_region
  go_wp2
  go_ret
  exact ⟨rfl, (HN.out.alloc _).drew, (HKN.out.alloc _).drew⟩
set_option maxRecDepth 100000 in
set_option maxHeartbeats 2000000 in
theorem rnumber_no {E : Env} {w : World} {l : List Tok} {d : Nat} {q : Nat} (h : RSt E w l d 0 q) (hk3 : ((hdT l).kind == 3) = false) :
    Calls Tryd.prog 89 #[.pointer (some ⟨E.pb, 0, none⟩)] w fun e w' => e = .returned (.int .i64 0) ∧ RSt E w' l d 20 (hdT l).place ∧ Kp E.pb w w' := by
  have hk : (((hdT l).kind : Int) != 3) = true := by simp at hk3 ⊢; omega
  have H := Lib.hid h
  have c0 : w.cell? ⟨E.pb, 0, none⟩ = some (.slice (some ⟨E.tb, 0, none⟩) E.ts.length E.cap) := h.blk.cell 0
  have c1 : w.cell? ⟨E.pb, 1, none⟩ = some (.int .i64 ((E.ts.length - l.length : Nat) : Int)) := h.blk.cell 1
  have c3 : w.cell? ⟨E.pb, 3, none⟩ = some (.int .i64 0) := h.blk.cell 3
  have cf := h.blk.frozen 1
  obtain ⟨t0, t1, t2, t3⟩ := h.tok
  have hkl : E.ts.length - l.length < E.ts.length := by have := h.head.1; have := h.le; omega
  have hlen := h.len
  have hcap := h.capb
  have hplt := h.plt
  have htlt := h.tlt
  have ix1 : (0 : Int) ≤ ((E.ts.length - l.length : Nat) : Int) := by omega
  have ix2 : (((E.ts.length - l.length : Nat) : Int)) < (E.ts.length : Int) := by omega
  generalize E.ts.length - l.length = k at *
  clear h hk3
  go_enter Tryd.func89, Tryd.ntmps89
  go_wp2
  go_region
  go_wp2_with fail
  refine (rfail_ok ((H.out.alloc _).drew) 20).mono ?_
  rintro e w2 ⟨rfl, h2, hk2⟩
  have H2 := Lib.hid h2
  have HK2 := Lib.hid ((((Kp.refl E.pb w).alloc _).drew).trans hk2)
  clear h2 hk2
  go_wp2
  go_ret
  exact ⟨rfl, H2.out, HK2.out⟩
set_option maxRecDepth 100000 in
set_option maxHeartbeats 2000000 in
theorem rnumber_bad {E : Env} {w : World} {l : List Tok} {d : Nat} {f : Int} {q : Nat} (h : RSt E w l d f q) (hf : (f == 0) = false) :
    Calls Tryd.prog 89 #[.pointer (some ⟨E.pb, 0, none⟩)] w fun e w' => e = .returned (.int .i64 0) ∧ Below w.heap.size w w' := by
  have hn : (f != 0) = true := by simp at hf ⊢; exact hf
  have H := Lib.hid h
  have HF := Lib.hid hf
  have c0 : w.cell? ⟨E.pb, 0, none⟩ = some (.slice (some ⟨E.tb, 0, none⟩) E.ts.length E.cap) := h.blk.cell 0
  have c1 : w.cell? ⟨E.pb, 1, none⟩ = some (.int .i64 ((E.ts.length - l.length : Nat) : Int)) := h.blk.cell 1
  have c3 : w.cell? ⟨E.pb, 3, none⟩ = some (.int .i64 f) := h.blk.cell 3
  have cf := h.blk.frozen 1
  obtain ⟨t0, t1, t2, t3⟩ := h.tok
  have hkl : E.ts.length - l.length < E.ts.length := by have := h.head.1; have := h.le; omega
  have hlen := h.len
  have hcap := h.capb
  have hplt := h.plt
  have htlt := h.tlt
  have ix1 : (0 : Int) ≤ ((E.ts.length - l.length : Nat) : Int) := by omega
  have ix2 : (((E.ts.length - l.length : Nat) : Int)) < (E.ts.length : Int) := by omega
  generalize E.ts.length - l.length = k at *
  clear h
  go_enter Tryd.func89, Tryd.ntmps89
  go_wp2
  go_region
  go_wp2_with fail
  refine (rfail_bad ((H.out.alloc _).drew) HF.out 20).mono ?_
  rintro e w2 ⟨rfl, rfl⟩
  go_wp2
  go_ret
  exact ⟨rfl, ((Below.refl _ _).alloc (Nat.le_refl _) _).drew⟩
end

end Go.Proofs.YtnmpfpnldcgbaaaDoor
