/- A row of trees in memory read tree by tree; and the contract of syntax.Size. -/
import Derived.Test.YtnlblacpeddciaaDoorRead
import Derived.Test.YtnlblacpeddciaaDoorSize
namespace Go.Proofs.YtnlblacpeddciaaDoor
open Go.RowKit

theorem rowCells_get : ∀ (ks : List T) (vs : List Value) (k : Nat) (t : T) (u : Value) (j : Nat), ks[k]? = some t → vs[k]? = some u → j < 5 → (rowCells ks vs)[k * 5 + j]? = (nodeCells t u)[j]?
  | [], _, k, t, u, j, h, _, _ => by simp at h
  | _ :: _, [], k, t, u, j, _, h, _ => by simp at h
  | a :: ks, b :: vs, 0, t, u, j, h, h', hj => by
    obtain rfl : a = t := by simpa using h
    obtain rfl : b = u := by simpa using h'
    rw [rowCells, Nat.zero_mul, Nat.zero_add, List.getElem?_append_left (by simpa [nodeCells] using hj)]
  | a :: ks, b :: vs, k + 1, t, u, j, h, h', hj => by
    rw [rowCells, List.getElem?_append_right (by simp [nodeCells]; omega)]
    have e : (k + 1) * 5 + j - (nodeCells a b).length = k * 5 + j := by simp [nodeCells]; omega
    rw [e]
    exact rowCells_get ks vs k t u j (by simpa using h) (by simpa using h') hj
theorem TsAt.get {e : TypeId} {w : World} : ∀ {ts : List T} {S : Nat → Prop} {vs : List Value}, TsAt e w ts S vs → ∀ {k : Nat} {t : T}, ts[k]? = some t → ∃ u, vs[k]? = some u ∧ TAt e w t S u
  | [], _, _, _, k, t, h => by simp at h
  | a :: ts, S, vs, h, 0, t, hk => by
    unfold TsAt at h
    obtain ⟨v, vs', rfl, ht, _⟩ := h
    obtain rfl : a = t := by simpa using hk
    exact ⟨v, rfl, ht⟩
  | a :: ts, S, vs, h, k + 1, t, hk => by
    unfold TsAt at h
    obtain ⟨v, vs', rfl, _, hts⟩ := h
    obtain ⟨u, hu, ht⟩ := TsAt.get hts (k := k) (t := t) (by simpa using hk)
    exact ⟨u, by simpa using hu, ht⟩

/- A slice of trees is nil and holds none, or lies in a block. -/
theorem KAt.form {e : TypeId} {w : World} {ks : List T} {S : Nat → Prop} {v : Value} (h : KAt e w ks S v) : (v = .slice none 0 0 ∧ ks = []) ∨ ∃ g cap, v = .slice (some ⟨g, 0, none⟩) ks.length cap ∧ g < w.heap.size ∧ ks.length ≤ cap ∧ cap ≤ maxLen ∧
    ∀ k t, ks[k]? = some t → ∃ u, w.rangeAt g (k * 5) (nodeCells t u) ∧ TAt e w t S u := by
  obtain ⟨vs, ho, hS, hts⟩ := h
  have ho' := ho
  rcases ho.2 with ⟨rfl, h0⟩ | ⟨g, cap, cur, rfl, hb, hg, hnc, hcm, hcs, htake⟩
  · exact .inl ⟨rfl, List.eq_nil_of_length_eq_zero h0⟩
  · refine .inr ⟨g, cap, rfl, (Array.getElem?_eq_some_iff.1 hg).1, hnc, hcm, fun k t hk => ?_⟩
    obtain ⟨u, hu, ht⟩ := TsAt.get hts hk
    refine ⟨u, fun j x hj => ?_, ht.mono fun b hb _ => hb.1⟩
    have hj5 : j < 5 := by have := (List.getElem?_eq_some_iff.1 hj).1; simpa [nodeCells] using this
    have hlt : k < ks.length := (List.getElem?_eq_some_iff.1 hk).1
    rw [ho'.cellAt (k * 5 + j) (by omega), rowCells_get ks vs k t u j hk hu hj5]
    exact hj
theorem rangeAt_below {w w' : World} {g o : Nat} {cs : List Value} (h : w.rangeAt g o cs) (hb : Below w.heap.size w w') (hg : g < w.heap.size) : w'.rangeAt g o cs := fun j v hj => (hb.cell (p := ⟨g, o + j, none⟩) hg).trans (h j v hj)

theorem sizes_take (ks : List T) (k : Nat) (t : T) (h : ks[k]? = some t) : sizes (ks.take (k + 1)) = sizes (ks.take k) + t.size := by
  have hlt := (List.getElem?_eq_some_iff.1 h).1
  rw [List.take_succ_eq_append_getElem hlt, sizes_append, sizes_cons, sizes_nil, (List.getElem?_eq_some_iff.1 h).2]
  omega
theorem sizes_mem : ∀ {ks : List T} {k : Nat} {t : T}, ks[k]? = some t → t.size ≤ sizes ks
  | [], k, t, h => by simp at h
  | a :: ks, 0, t, h => by
    obtain rfl : a = t := by simpa using h
    rw [sizes_cons]; omega
  | a :: ks, k + 1, t, h => by rw [sizes_cons]; have := sizes_mem (ks := ks) (k := k) (t := t) (by simpa using h); omega
theorem sizes_take_le (ks : List T) (k : Nat) : sizes (ks.take k) ≤ sizes ks := by
  have h := sizes_append (ks.take k) (ks.drop k)
  rw [List.take_append_drop] at h
  omega

def SizeRel (w : World) (ks : List T) (g : Nat) (s i : Value) (wr : World) : Prop :=
  ∃ k : Nat, k ≤ ks.length ∧ ks.length ≤ k + g ∧ i = .int .i64 k ∧ s = .int .i64 ((1 + sizes (ks.take k) : Nat) : Int) ∧ Below w.heap.size w wr

set_option maxRecDepth 100000 in
set_option maxHeartbeats 1000000 in
theorem size_any : ∀ (n : Nat) (t : T), t.size ≤ n → ∀ {w : World} {S : Nat → Prop} {kv : Value}, KAt 25 w t.kids S kv → t.size ≤ 1000000 →
    Calls Tryd.prog 15 #[NodeV t kv] w fun e w' => e = .returned (.int .i64 t.size) ∧ Below w.heap.size w w' := by
  intro n
  induction n with
  | zero => intro t ht; cases t; rw [size_mk] at ht; omega
  | succ n ih =>
    intro t ht w S kv hk hbig
    have hts : t.size = 1 + sizes t.kids := by cases t; rw [size_mk]; rfl
    have HTS := Lib.hid hts
    have HT := Lib.hid ht
    have HBIG := Lib.hid hbig
    have HIH := Lib.hid (@ih)
    have hkl : t.kids.length ≤ sizes t.kids := by
      have : ∀ ks : List T, ks.length ≤ sizes ks := fun ks => by
        induction ks with
        | nil => simp
        | cons a ks h => rw [sizes_cons]; cases a; rw [size_mk]; simp; omega
      exact this _
    have hkl2 : t.kids.length ≤ 1000000 := by omega
    rcases hk.form with ⟨rfl, hnil⟩ | ⟨g, cap, rfl, hg, hcap, hcm, hget⟩
    · have HN := Lib.hid hnil
      clear hk ih ht hbig hts hnil hkl hkl2
      unfold NodeV
      go_enter Tryd.func15, Tryd.ntmps15
      go_wp2_with fail
      refine wp_loop_rounds 1 ?_
      rw [rounds_succ]
      go_wp2_with fail
      go_ret
      refine ⟨?_, (Below.refl _ _).alloc (Nat.le_refl _) _⟩
      rw [HTS.out, HN.out, sizes_nil]
      rfl
    · have HG := Lib.hid hget
      have HCAP := Lib.hid hcap
      clear hk ih ht hbig hts hget hkl hcap
      unfold maxLen at hcm
      unfold NodeV
      go_enter Tryd.func15, Tryd.ntmps15
      go_wp2_with fail
      go_loopg [3, 9] t.kids.length (fun gk s i wr => SizeRel w t.kids gk s i wr)
      case atStart => exact ⟨0, by omega, by omega, rfl, by rw [List.take_zero, sizes_nil]; rfl, (Below.refl _ _).alloc (Nat.le_refl _) _⟩
      case round =>
        obtain ⟨k, hk, hgk, rfl, rfl, hbel⟩ := hrel
        have HB := Lib.hid hbel
        have hzw := hbel.size
        have hsl : sizes (t.kids.take k) ≤ 1000000 := by have h1 := sizes_take_le t.kids k; have h2 := HTS.out; have h3 := HBIG.out; omega
        clear hbel
        by_cases hlt : k < t.kids.length
        · obtain ⟨u, hr, hT⟩ := HG.out k t.kids[k] (List.getElem?_eq_getElem hlt)
          have hne := List.getElem?_eq_getElem hlt
          generalize t.kids[k] = tk at hr hT hne
          have HR := Lib.hid (rangeAt_below hr ((HB.out.mono (Nat.le_refl _))) hg)
          have HTK := Lib.hid (hT.below (HB.out))
          have HNE := Lib.hid hne
          have hcap := HCAP.out
          have hks := sizes_mem hne
          clear hr hT hne
          go_wp2_with (first
            | ((with_reducible refine at_ld 25 (.tmp 11) ?_); refine wpList_load_mid rfl 25 (.tmp 11) rfl g (k * 5) rfl (nodeCells tk u) _ HR.out Tryd.underlying25 rfl Tryd.sizeNode ?_)
            | ((with_reducible refine at_st 25 (.tmp 5) ?_); refine wpList_store_new rfl 25 (.tmp 5) (.tmp 12) rfl (nodeCells tk u) (old := zeroNodeCells) rfl rfl Tryd.sizeNode rfl (nodeCells_one _ _ HTK.out.kat.one) ?_)
            | ((with_reducible refine at_ld 25 (.tmp 5) ?_); refine wpList_load_blk rfl 25 (.tmp 5) rfl wr.heap.size (nodeCells tk u) rfl (Blk.new wr _ _) Tryd.underlying25 rfl Tryd.sizeNode ?_))
          refine (HIH.out tk (by have h2 := HTS.out; have h3 := HT.out; omega) (HTK.out.alloc _).kat (by have h2 := HTS.out; have h3 := HBIG.out; omega)).mono ?_
          rintro e w2 ⟨rfl, hb2⟩
          have HB2 := Lib.hid ((HB.out.alloc hzw _).trans (hb2.mono (by simp; omega)))
          have hks2 : tk.size ≤ 1000000 := by have h2 := HTS.out; have h3 := HBIG.out; omega
          clear hb2
          go_wp2
          go_roundg (gk - 1)
          case measure => omega
          case rel =>
            refine ⟨k + 1, by omega, by omega, by go_num, ?_, HB2.out⟩
            rw [sizes_take _ _ _ HNE.out]
            go_num
        · have HE := Lib.hid (show t.kids.take k = t.kids from List.take_of_length_le (by omega))
          go_wp2
          go_ret
          exact ⟨by rw [HTS.out, HE.out]; rfl, HB.out⟩

end Go.Proofs.YtnlblacpeddciaaDoor
