/- The contract of lychgateref02.Size on a tree in memory: how many nodes it has; nothing that was there is changed. -/
import Derived.Test.YtflhniiemmahmaaDoorRefTree
namespace Go.Proofs.YtflhniiemmahmaaDoor
open Go.RowKit

def RSRel (w : World) (t : T) (kv : Value) (g : Nat) (s i : Value) (wr : World) : Prop :=
  ∃ k : Nat, k ≤ t.kids.length ∧ t.kids.length ≤ k + g ∧ i = .int .i64 k ∧ s = .int .i64 ((1 + sizes (t.kids.take k) : Nat) : Int) ∧ Below w.heap.size w wr ∧ Blk wr w.heap.size (nodeCells t kv) 31

set_option maxRecDepth 100000 in
set_option maxHeartbeats 2000000 in
theorem refSize_any : ∀ (n : Nat) (t : T), t.size ≤ n → ∀ {w : World} {S : Nat → Prop} {kv : Value}, KAt 31 w t.kids S kv → t.size ≤ 1000000 →
    Calls Tryd.prog 15 #[NodeV t kv] w fun e w' => e = .returned (.int .i64 t.size) ∧ Below w.heap.size w w' := by
  intro n
  induction n with
  | zero => intro t ht; cases t; rw [size_mk] at ht; omega
  | succ n ih =>
    intro t ht w S kv hk hbig
    have hts : t.size = 1 + sizes t.kids := by cases t; rw [size_mk]; rfl
    have HTS := Lib.hid hts
    have HT := Lib.hid ht
    have HBIG := Lib.hid hbig
    have HIH := Lib.hid (@ih)
    have hkl2 : t.kids.length ≤ 1000000 := by have := kids_len t; omega
    rcases hk.form with ⟨rfl, hnil⟩ | ⟨g, cap, rfl, hg, hcap, hcm, hget⟩
    · have HN := Lib.hid hnil
      clear hk ih ht hbig hts hnil hkl2
      unfold NodeV
      go_enter Tryd.func15, Tryd.ntmps15
      go_wp2_with fail
      refine wp_loop_rounds 1 ?_
      rw [rounds_succ]
      go_wp2_with fail
      go_ret
      refine ⟨?_, (Below.refl _ _).alloc (Nat.le_refl _) _⟩
      rw [HTS.out, HN.out, sizes_nil]
      rfl
    · have HG := Lib.hid hget
      have HCAP := Lib.hid hcap
      have HHG := Lib.hid hg
      have HNEW := Lib.hid (Blk.new w (nodeCells t (.slice (some ⟨g, 0, none⟩) t.kids.length cap)) 31)
      clear hk ih ht hbig hts hget hcap hg
      unfold maxLen at hcm
      unfold NodeV
      go_enter Tryd.func15, Tryd.ntmps15
      go_wp2_with fail
      go_loopg [3, 4] t.kids.length (fun gk s i wr => RSRel w t (.slice (some ⟨g, 0, none⟩) t.kids.length cap) gk s i wr)
      case atStart => exact ⟨0, by omega, by omega, rfl, by rw [List.take_zero, sizes_nil]; rfl, (Below.refl _ _).alloc (Nat.le_refl _) _, HNEW.out⟩
      case round =>
        obtain ⟨k, hk, hgk, rfl, rfl, hbel, hblk⟩ := hrel
        have HB := Lib.hid hbel
        have HBL := Lib.hid hblk
        have hzw := hblk.lt
        have hsl : sizes (t.kids.take k) ≤ 1000000 := by have h1 := sizes_take_le t.kids k; have h2 := HTS.out; have h3 := HBIG.out; omega
        have cx : wr.cell? ⟨w.heap.size, 4, none⟩ = some (.slice (some ⟨g, 0, none⟩) t.kids.length cap) := HBL.out.cell 4
        clear hbel hblk
        by_cases hlt : k < t.kids.length
        · obtain ⟨u, hr, hT⟩ := HG.out k t.kids[k] (List.getElem?_eq_getElem hlt)
          have hne := List.getElem?_eq_getElem hlt
          generalize t.kids[k] = tk at hr hT hne
          have HR := Lib.hid (rangeAt_below hr HB.out HHG.out)
          have HTK := Lib.hid (hT.below HB.out)
          have HNE := Lib.hid hne
          have hcap := HCAP.out
          have hks := sizes_mem hne
          clear hr hT hne
          go_wp2_with ((with_reducible refine at_ld 31 (.tmp 16) ?_); refine wpList_load_mid rfl 31 (.tmp 16) rfl g (k * 5) rfl (nodeCells tk u) _ HR.out Tryd.underlying31 rfl Tryd.sizeRef ?_)
          refine (HIH.out tk (by have h2 := HTS.out; have h3 := HT.out; omega) HTK.out.kat (by have h2 := HTS.out; have h3 := HBIG.out; omega)).mono ?_
          rintro e w2 ⟨rfl, hb2⟩
          have HB2 := Lib.hid (HB.out.trans (hb2.mono HB.out.size))
          have HBL2 := Lib.hid (HBL.out.below hb2)
          have hks2 : tk.size ≤ 1000000 := by have h2 := HTS.out; have h3 := HBIG.out; omega
          clear hb2 cx
          go_wp2
          go_roundg (gk - 1)
          case measure => omega
          case rel =>
            refine ⟨k + 1, by omega, by omega, by go_num, ?_, HB2.out, HBL2.out⟩
            rw [sizes_take _ _ _ HNE.out]
            go_num
        · have HE := Lib.hid (show t.kids.take k = t.kids from List.take_of_length_le (by omega))
          go_wp2
          go_ret
          exact ⟨by rw [HTS.out, HE.out]; rfl, HB.out⟩

end Go.Proofs.YtflhniiemmahmaaDoor
