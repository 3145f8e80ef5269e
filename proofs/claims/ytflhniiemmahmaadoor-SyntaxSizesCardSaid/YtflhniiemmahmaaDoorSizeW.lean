/- The contract of syntax.Size. -/
import Derived.Test.YtflhniiemmahmaaDoorForms
import Derived.Test.YtflhniiemmahmaaDoorRead
namespace Go.Proofs.YtflhniiemmahmaaDoor
open Go.RowKit

def SizeRel (w : World) (ks : List T) (g : Nat) (s i : Value) (wr : World) : Prop :=
  ∃ k : Nat, k ≤ ks.length ∧ ks.length ≤ k + g ∧ i = .int .i64 k ∧ s = .int .i64 ((1 + sizes (ks.take k) : Nat) : Int) ∧ Below w.heap.size w wr

set_option maxRecDepth 100000 in
set_option maxHeartbeats 1000000 in
theorem size_any : ∀ (n : Nat) (t : T), t.size ≤ n → ∀ {w : World} {S : Nat → Prop} {kv : Value}, KAt 25 w t.kids S kv → t.size ≤ 1000000 →
    Calls Tryd.prog 14 #[NodeV t kv] w fun e w' => e = .returned (.int .i64 t.size) ∧ Below w.heap.size w w' := by
  intro n
  induction n with
  | zero => intro t ht; cases t; rw [size_mk] at ht; omega
  | succ n ih =>
    intro t ht w S kv hk hbig
    have hts : t.size = 1 + sizes t.kids := by cases t; rw [size_mk]; rfl
    have HTS := Lib.hid hts
    have HT := Lib.hid ht
    have HBIG := Lib.hid hbig
    have HIH := Lib.hid (@ih)
    have hkl : t.kids.length ≤ sizes t.kids := by
      have : ∀ ks : List T, ks.length ≤ sizes ks := fun ks => by
        induction ks with
        | nil => simp
        | cons a ks h => rw [sizes_cons]; cases a; rw [size_mk]; simp; omega
      exact this _
    have hkl2 : t.kids.length ≤ 1000000 := by omega
    rcases hk.form with ⟨rfl, hnil⟩ | ⟨g, cap, rfl, hg, hcap, hcm, hget⟩
    · have HN := Lib.hid hnil
      clear hk ih ht hbig hts hnil hkl hkl2
      unfold NodeV
      go_enter Tryd.func14, Tryd.ntmps14
      go_wp2_with fail
      refine wp_loop_rounds 1 ?_
      rw [rounds_succ]
      go_wp2_with fail
      go_ret
      refine ⟨?_, (Below.refl _ _).alloc (Nat.le_refl _) _⟩
      rw [HTS.out, HN.out, sizes_nil]
      rfl
    · have HG := Lib.hid hget
      have HCAP := Lib.hid hcap
      clear hk ih ht hbig hts hget hkl hcap
      unfold maxLen at hcm
      unfold NodeV
      go_enter Tryd.func14, Tryd.ntmps14
      go_wp2_with fail
      go_loopg [3, 9] t.kids.length (fun gk s i wr => SizeRel w t.kids gk s i wr)
      case atStart => exact ⟨0, by omega, by omega, rfl, by rw [List.take_zero, sizes_nil]; rfl, (Below.refl _ _).alloc (Nat.le_refl _) _⟩
      case round =>
        obtain ⟨k, hk, hgk, rfl, rfl, hbel⟩ := hrel
        have HB := Lib.hid hbel
        have hzw := hbel.size
        have hsl : sizes (t.kids.take k) ≤ 1000000 := by have h1 := sizes_take_le t.kids k; have h2 := HTS.out; have h3 := HBIG.out; omega
        clear hbel
        by_cases hlt : k < t.kids.length
        · obtain ⟨u, hr, hT⟩ := HG.out k t.kids[k] (List.getElem?_eq_getElem hlt)
          have hne := List.getElem?_eq_getElem hlt
          generalize t.kids[k] = tk at hr hT hne
          have HR := Lib.hid (rangeAt_below hr ((HB.out.mono (Nat.le_refl _))) hg)
          have HTK := Lib.hid (hT.below (HB.out))
          have HNE := Lib.hid hne
          have hcap := HCAP.out
          have hks := sizes_mem hne
          clear hr hT hne
          go_wp2_with (first
            | ((with_reducible refine at_ld 25 (.tmp 11) ?_); refine wpList_load_mid rfl 25 (.tmp 11) rfl g (k * 5) rfl (nodeCells tk u) _ HR.out Tryd.underlying25 rfl Tryd.sizeNode ?_)
            | ((with_reducible refine at_st 25 (.tmp 5) ?_); refine wpList_store_new rfl 25 (.tmp 5) (.tmp 12) rfl (nodeCells tk u) (old := zeroNodeCells) rfl rfl Tryd.sizeNode rfl (nodeCells_one _ _ HTK.out.kat.one) ?_)
            | ((with_reducible refine at_ld 25 (.tmp 5) ?_); refine wpList_load_blk rfl 25 (.tmp 5) rfl wr.heap.size (nodeCells tk u) rfl (Blk.new wr _ _) Tryd.underlying25 rfl Tryd.sizeNode ?_))
          refine (HIH.out tk (by have h2 := HTS.out; have h3 := HT.out; omega) (HTK.out.alloc _).kat (by have h2 := HTS.out; have h3 := HBIG.out; omega)).mono ?_
          rintro e w2 ⟨rfl, hb2⟩
          have HB2 := Lib.hid ((HB.out.alloc hzw _).trans (hb2.mono (by simp; omega)))
          have hks2 : tk.size ≤ 1000000 := by have h2 := HTS.out; have h3 := HBIG.out; omega
          clear hb2
          go_wp2
          go_roundg (gk - 1)
          case measure => omega
          case rel =>
            refine ⟨k + 1, by omega, by omega, by go_num, ?_, HB2.out⟩
            rw [sizes_take _ _ _ HNE.out]
            go_num
        · have HE := Lib.hid (show t.kids.take k = t.kids from List.take_of_length_le (by omega))
          go_wp2
          go_ret
          exact ⟨by rw [HTS.out, HE.out]; rfl, HB.out⟩

end Go.Proofs.YtflhniiemmahmaaDoor
