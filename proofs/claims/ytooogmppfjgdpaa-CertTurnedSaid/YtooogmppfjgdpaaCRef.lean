/- The contract of lychgatelaw05.refs. -/
import Derived.Test.YtooogmppfjgdpaaDRef0
namespace Go.Proofs.Ytooogmppfjgdpaa
open Go.RowKit

set_option maxHeartbeats 2000000 in
theorem refs_any (A : Option Addr) (cap : Nat) (fs : List F) (w : World) (hfs : FactsAt w w.heap.size A fs) (hcm : fs.length ≤ maxLen) (hby : fs.length * 24 ≤ 140737488355328) :
    Calls Try.prog 12 #[.slice A fs.length cap] w (RefsPost fs w) := by
  have hcm' := hcm
  unfold maxLen at hcm'
  have HF := Lib.hid hfs
  clear hfs
  go_enter Try.func12, Try.ntmps12
  go_wp2
  go_loopw [3, 8] (fun v i wr => ∃ k : Nat, k ≤ fs.length ∧ i = .int .i64 k ∧ wr.ownsRow w.heap.size 46 3 v k (factCells (fs.take k)) ∧ Below w.heap.size w wr) (fun _ i _ => fs.length - (intOf i).toNat)
  case atStart => exact ⟨0, by omega, rfl, World.ownsRow_nil _ _ _ _, Below.refl _ _⟩
  case round =>
    obtain ⟨k, hk, rfl, hown, hb⟩ := hrel
    by_cases hlt : k < fs.length
    · obtain ⟨b, off, hA, hbl, hcl⟩ := HF.out (by omega)
      obtain ⟨f, hf⟩ : ∃ f, fs[k]? = some f := ⟨_, List.getElem?_eq_getElem hlt⟩
      obtain ⟨f0, f1, f2⟩ := hcl k f hf
      replace f0 := (hb.cell (p := ⟨b, off + k * 3, none⟩) hbl).trans f0
      replace f1 := (hb.cell (p := ⟨b, off + k * 3 + 1, none⟩) hbl).trans f1
      replace f2 := (hb.cell (p := ⟨b, off + k * 3 + 2, none⟩) hbl).trans f2
      subst hA
      have hz := hb.size
      have HT := Lib.hid (take_snoc hf)
      have HO := Lib.hid hown
      have HB := Lib.hid hb
      have hbw : b < wr.heap.size := by omega
      clear hcl hf hb hown
      obtain ⟨i0, I⟩ := Try.refInfo
      go_wp2_with (at_builtin; refine wpList_append_facts rfl (.tmp 12) (.tmp 20) rfl I rfl ((HO.out.alloc _).alloc _) rfl (FactsAt.lit (wr.alloc _) f _ (wr.heap.size + 1) (by simp)) rfl ?c3 ?c4 ?c5 ?_)
      case c3 => unfold maxLen; omega
      case c4 => omega
      case c5 => simp; omega
      intro A' c' w3 hown3 hgrow3
      have HO3 := Lib.hid hown3
      have HB3 := Lib.hid (((HB.out.alloc hz _).alloc (by simp; omega) _).grown hgrow3 (by simp; omega) (fun j hj => (HO.out.lt j hj).1))
      clear hown3 hgrow3
      go_wp2
      go_roundw
      case rel => exact ⟨k + 1, by omega, by go_num, by rw [HT.out]; exact HO3.out, HB3.out⟩
      case measure => simp [intOf]; omega
    · have hke : k = fs.length := by omega
      subst hke
      obtain ⟨A2, cap2, rfl, _, _⟩ := own_slice hown
      rw [List.take_of_length_le (Nat.le_refl _)] at hown
      have HO := Lib.hid hown
      have HB := Lib.hid hb
      clear hown hb
      go_wp2
      go_ret
      exact ⟨A2, cap2, rfl, HO.out, HB.out⟩

end Go.Proofs.Ytooogmppfjgdpaa
