/- The contracts of shape's find, number, variable, sizeOf, and of Table.Find: what has a name first. -/
import Derived.Test.YtdkdidgeaalcgaaDoorShpA
import Derived.Test.YtdkdidgeaalcgaaDoorP19
namespace Go.Proofs.YtdkdidgeaalcgaaDoor
open Go.RowKit

/- Trees in a slice, to be read alone. -/
def Ns (w : World) (A : Option Addr) (ks : List T) : Prop :=
  0 < ks.length → ∃ g, A = some ⟨g, 0, none⟩ ∧ g < w.heap.size ∧ ∀ k t, ks[k]? = some t → ∃ u, w.rangeAt g (k * 5) (nodeCells t u) ∧ KAt 39 w t.kids (fun _ => True) u
def NsV (w : World) (ks : List T) (v : Value) : Prop := ∃ A c, v = .slice A ks.length c ∧ ks.length ≤ c ∧ c ≤ 9223372036854775807 ∧ Ns w A ks
theorem Ns.below {w w' : World} {A : Option Addr} {ks : List T} (h : Ns w A ks) (hb : Below w.heap.size w w') : Ns w' A ks := fun hn => by
  obtain ⟨g, e, hg, hf⟩ := h hn
  refine ⟨g, e, Nat.lt_of_lt_of_le hg hb.size, fun k t hk => ?_⟩
  obtain ⟨u, hr, ht⟩ := hf k t hk
  exact ⟨u, rangeAt_below hr hb hg, ht.below hb⟩
theorem Ns.take {w : World} {A : Option Addr} {ks : List T} (h : Ns w A ks) (i : Nat) : Ns w A (ks.take i) := fun hn => by
  obtain ⟨g, e, hg, hf⟩ := h (by simp only [List.length_take] at hn; omega)
  refine ⟨g, e, hg, fun k t hk => hf k t ?_⟩
  rw [List.getElem?_take] at hk
  split at hk
  · exact hk
  · cases hk
theorem NsV.below {w w' : World} {ks : List T} {v : Value} (h : NsV w ks v) (hb : Below w.heap.size w w') : NsV w' ks v := by
  obtain ⟨A, c, e, h1, h2, h3⟩ := h
  exact ⟨A, c, e, h1, h2, h3.below hb⟩
theorem KAt.nsv {w : World} {ks : List T} {S : Nat → Prop} {v : Value} (h : KAt 39 w ks S v) : NsV w ks v := by
  rcases h.form with ⟨rfl, rfl⟩ | ⟨g, cap, rfl, hg, h1, h2, hf⟩
  · exact ⟨none, 0, rfl, Nat.le_refl _, by omega, fun h => by simp at h⟩
  · refine ⟨_, cap, rfl, h1, by unfold maxLen at h2; omega, fun _ => ⟨g, rfl, hg, fun k t hk => ?_⟩⟩
    obtain ⟨u, hr, ht⟩ := hf k t hk
    exact ⟨u, hr, ht.kat.mono fun _ _ _ => trivial⟩

set_option maxHeartbeats 1000000 in
theorem isNode_any (t : T) (kv : Value) (g : Nat) (s : ByteArray) (w : World) (hg : w.cell? ⟨g, 0, none⟩ = some (.string s)) (hlt : g < w.heap.size) :
    Calls Tryd.prog 70 #[NodeV t kv, .pointer (some ⟨g, 0, none⟩)] w fun e w' => e = .returned (.bool (t.text.toList == s.toList)) ∧ Below w.heap.size w w' := by
  unfold NodeV
  generalize t.text = x
  go_enter Tryd.func70, Tryd.ntmps70
  go_wp2
  go_ret
  exact ⟨rfl, (Below.refl _ _).alloc (Nat.le_refl _) _⟩
set_option maxHeartbeats 1000000 in
theorem isType_any (t : Ty) (p l : Value) (g : Nat) (s : ByteArray) (w : World) (hg : w.cell? ⟨g, 0, none⟩ = some (.string s)) (hlt : g < w.heap.size) :
    Calls Tryd.prog 20 #[TyV t p l, .pointer (some ⟨g, 0, none⟩)] w fun e w' => e = .returned (.bool (t.name.toList == s.toList)) ∧ Below w.heap.size w w' := by
  unfold TyV
  generalize t.name = x
  go_enter Tryd.func20, Tryd.ntmps20
  go_wp2
  go_ret
  exact ⟨rfl, (Below.refl _ _).alloc (Nat.le_refl _) _⟩

def FndPost (w : World) (r : Option Nat) (e : Ending) (w' : World) : Prop := e = .returned (.int .i64 (oi r)) ∧ Below w.heap.size w w'
theorem FndPost.yes {α : Type} {nm : α → ByteArray} {l : List α} {s : ByteArray} {k : Nat} {t : α} {w w' : World} (h : l[k]? = some t) (hn : fndF nm (l.take k) s = none) (hb : ((nm t).toList == s.toList) = true) (hB : Below w.heap.size w w') : FndPost w (fndF nm l s) (.returned (.int .i64 k)) w' := by
  rw [(fndF_take h hn).2 (by simpa using hb)]
  exact ⟨rfl, hB⟩
theorem FndPost.no {α : Type} {nm : α → ByteArray} {l : List α} {s : ByteArray} {k : Nat} {w w' : World} (hk : l.length ≤ k) (hn : fndF nm (l.take k) s = none) (hB : Below w.heap.size w w') : FndPost w (fndF nm l s) (.returned (.int .i64 (-1))) w' := by
  rw [List.take_of_length_le hk] at hn
  rw [hn]
  exact ⟨rfl, hB⟩
theorem fnd_next {α : Type} {nm : α → ByteArray} {l : List α} {s : ByteArray} {k : Nat} {t : α} (h : l[k]? = some t) (hn : fndF nm (l.take k) s = none) (hb : ((nm t).toList == s.toList) = false) : fndF nm (l.take (k + 1)) s = none := by
  rw [(fndF_take h hn).1, hb]; rfl

set_option maxRecDepth 100000 in
set_option maxHeartbeats 1000000 in
theorem indexNode_any (g : Nat) (s : ByteArray) (A : Option Addr) (cap : Nat) (ks : List T) (w : World) (hg : w.cell? ⟨g, 0, none⟩ = some (.string s)) (hlt : g < w.heap.size) (hks : Ns w A ks) (hl : ks.length ≤ 9223372036854775807) :
    Calls Tryd.prog 69 #[.slice A ks.length cap, .func (.func 70) #[] #[.pointer (some ⟨g, 0, none⟩)]] w (FndPost w (fndT ks s)) := by
  have HF := Lib.hid hks
  clear hks
  go_enter Tryd.func69, Tryd.ntmps69
  go_wp2
  go_loopw [8] (fun i wr => ∃ k : Nat, k ≤ ks.length ∧ i = .int .i64 k ∧ Below w.heap.size w wr ∧ fndT (ks.take k) s = none) (fun i _ => ks.length - (intOf i).toNat)
  case atStart => exact ⟨0, by omega, rfl, Below.refl _ _, by simp [fndF]⟩
  case round =>
    obtain ⟨k, hk, rfl, hb, hno⟩ := hrel
    have HB := Lib.hid hb
    have HN := Lib.hid hno
    clear hb hno
    by_cases hlt2 : k < ks.length
    · obtain ⟨b, rfl, hbl, hc⟩ := HF.out (by omega)
      obtain ⟨t, ht⟩ : ∃ t, ks[k]? = some t := ⟨_, List.getElem?_eq_getElem hlt2⟩
      obtain ⟨u, hr, _⟩ := hc k t ht
      have HR := Lib.hid (rangeAt_below hr HB.out hbl)
      have HT := Lib.hid ht
      clear hc hr ht
      go_wp2_with ((with_reducible refine at_ld 39 (.tmp 14) ?_); refine wpList_load_mid rfl 39 (.tmp 14) rfl b (k * 5) rfl (nodeCells t u) _ HR.out Tryd.underlying39 rfl Tryd.sizeNode ?_)
      refine (isNode_any t u g s _ ((HB.out.cell (p := ⟨g, 0, none⟩) hlt).trans hg) (Nat.lt_of_lt_of_le hlt HB.out.size)).mono ?_
      rintro e w1 ⟨rfl, hb1⟩
      have HB1 := Lib.hid (HB.out.trans (hb1.mono HB.out.size))
      clear hb1
      cases ho : t.text.toList == s.toList
      · go_wp2
        go_roundw
        case rel => exact ⟨k + 1, by omega, by go_num, HB1.out, fnd_next HT.out HN.out ho⟩
        case measure => simp [intOf]; omega
      · go_wp2
        go_ret
        exact FndPost.yes HT.out HN.out ho HB1.out
    · go_wp2
      go_ret
      exact FndPost.no (by omega) HN.out HB.out

/- Types in a slice, to be read alone. -/
def Tys (w : World) (A : Option Addr) (ts : List Ty) : Prop :=
  0 < ts.length → ∃ g, A = some ⟨g, 0, none⟩ ∧ g < w.heap.size ∧ ∀ k t, ts[k]? = some t → ∃ p l, w.rangeAt g (k * 5) (tyCells t p l) ∧ TyAt w t (fun _ => True) p l
theorem Tys.below {w w' : World} {A : Option Addr} {ts : List Ty} (h : Tys w A ts) (hb : Below w.heap.size w w') : Tys w' A ts := fun hn => by
  obtain ⟨g, e, hg, hf⟩ := h hn
  refine ⟨g, e, Nat.lt_of_lt_of_le hg hb.size, fun k t hk => ?_⟩
  obtain ⟨p, l, hr, ht⟩ := hf k t hk
  exact ⟨p, l, rangeAt_below hr hb hg, ht.keep fun b hb' hl => ⟨trivial, hb.block b hl⟩⟩
theorem TysAt.tys {w : World} {ts : List Ty} {S : Nat → Prop} {v : Value} (h : TysAt w ts S v) : ∃ A c, v = .slice A ts.length c ∧ ts.length ≤ 9223372036854775807 ∧ Tys w A ts := by
  rcases h.form with ⟨rfl, rfl⟩ | ⟨g, cap, rfl, hg, h1, h2, hf⟩
  · exact ⟨none, 0, rfl, by simp, fun h => by simp at h⟩
  · refine ⟨_, cap, rfl, by unfold maxLen at h2; omega, fun _ => ⟨g, rfl, hg.2, fun k t hk => ?_⟩⟩
    obtain ⟨p, l, hr, ht⟩ := hf k t hk
    exact ⟨p, l, hr, ht.keep fun _ _ _ => ⟨trivial, rfl⟩⟩

set_option maxRecDepth 100000 in
set_option maxHeartbeats 1000000 in
theorem indexType_any (g : Nat) (s : ByteArray) (A : Option Addr) (cap : Nat) (ts : List Ty) (w : World) (hg : w.cell? ⟨g, 0, none⟩ = some (.string s)) (hlt : g < w.heap.size) (hts : Tys w A ts) (hl : ts.length ≤ 9223372036854775807) :
    Calls Tryd.prog 19 #[.slice A ts.length cap, .func (.func 20) #[] #[.pointer (some ⟨g, 0, none⟩)]] w (FndPost w (fndY ts s)) := by
  have HF := Lib.hid hts
  clear hts
  go_enter Tryd.func19, Tryd.ntmps19
  go_wp2
  go_loopw [8] (fun i wr => ∃ k : Nat, k ≤ ts.length ∧ i = .int .i64 k ∧ Below w.heap.size w wr ∧ fndY (ts.take k) s = none) (fun i _ => ts.length - (intOf i).toNat)
  case atStart => exact ⟨0, by omega, rfl, Below.refl _ _, by simp [fndF]⟩
  case round =>
    obtain ⟨k, hk, rfl, hb, hno⟩ := hrel
    have HB := Lib.hid hb
    have HN := Lib.hid hno
    clear hb hno
    by_cases hlt2 : k < ts.length
    · obtain ⟨b, rfl, hbl, hc⟩ := HF.out (by omega)
      obtain ⟨t, ht⟩ : ∃ t, ts[k]? = some t := ⟨_, List.getElem?_eq_getElem hlt2⟩
      obtain ⟨p, l, hr, _⟩ := hc k t ht
      have HR := Lib.hid (rangeAt_below hr HB.out hbl)
      have HT := Lib.hid ht
      clear hc hr ht
      go_wp2_with ((with_reducible refine at_ld 50 (.tmp 14) ?_); refine wpList_load_mid rfl 50 (.tmp 14) rfl b (k * 5) rfl (tyCells t p l) _ HR.out Tryd.underlying50 rfl Tryd.sizeSType ?_)
      refine (isType_any t p l g s _ ((HB.out.cell (p := ⟨g, 0, none⟩) hlt).trans hg) (Nat.lt_of_lt_of_le hlt HB.out.size)).mono ?_
      rintro e w1 ⟨rfl, hb1⟩
      have HB1 := Lib.hid (HB.out.trans (hb1.mono HB.out.size))
      clear hb1
      cases ho : t.name.toList == s.toList
      · go_wp2
        go_roundw
        case rel => exact ⟨k + 1, by omega, by go_num, HB1.out, fnd_next HT.out HN.out ho⟩
        case measure => simp [intOf]; omega
      · go_wp2
        go_ret
        exact FndPost.yes HT.out HN.out ho HB1.out
    · go_wp2
      go_ret
      exact FndPost.no (by omega) HN.out HB.out

set_option maxHeartbeats 1000000 in
theorem find_any (s : ByteArray) (A : Option Addr) (cap : Nat) (ks : List T) (w : World) (hks : Ns w A ks) (hl : ks.length ≤ 9223372036854775807) :
    Calls Tryd.prog 48 #[.slice A ks.length cap, .string s] w (FndPost w (fndT ks s)) := by
  have HF := Lib.hid (hks.below ((Below.refl w.heap.size w).alloc (Nat.le_refl _) (.cells #[.string s] 9)))
  have hmf := makeFunc_run
  clear hks
  go_enter Tryd.func48, Tryd.ntmps48
  go_wp2_with fail
  refine (indexNode_any w.heap.size s A cap ks _ (by simp) (by simp) HF.out hl).mono ?_
  rintro e w1 ⟨rfl, hb⟩
  have HB := Lib.hid (((Below.refl w.heap.size w).alloc (Nat.le_refl _) _).trans (hb.mono (by simp)))
  clear hb
  go_wp2
  go_ret
  exact ⟨rfl, HB.out⟩
set_option maxHeartbeats 1000000 in
theorem tfind_any (s : ByteArray) (A : Option Addr) (cap : Nat) (ts : List Ty) (w : World) (hts : Tys w A ts) (hl : ts.length ≤ 9223372036854775807) :
    Calls Tryd.prog 14 #[.slice A ts.length cap, .string s] w (FndPost w (fndY ts s)) := by
  have HF := Lib.hid (hts.below ((Below.refl w.heap.size w).alloc (Nat.le_refl _) (.cells #[.string s] 9)))
  have hmf := makeFunc_run
  clear hts
  go_enter Tryd.func14, Tryd.ntmps14
  go_wp2_with fail
  refine (indexType_any w.heap.size s A cap ts _ (by simp) (by simp) HF.out hl).mono ?_
  rintro e w1 ⟨rfl, hb⟩
  have HB := Lib.hid (((Below.refl w.heap.size w).alloc (Nat.le_refl _) _).trans (hb.mono (by simp)))
  clear hb
  go_wp2
  go_ret
  exact ⟨rfl, HB.out⟩

end Go.Proofs.YtdkdidgeaalcgaaDoor
