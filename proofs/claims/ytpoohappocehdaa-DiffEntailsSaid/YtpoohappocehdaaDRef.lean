/- The contracts of lychgatelaw04.refs and lychgateref04.Fit. -/
import Derived.Test.YtpoohappocehdaaDApp
import Derived.Test.YtpoohappocehdaaDFloyd2
namespace Go.Proofs.Ytpoohappocehdaa
open Go.RowKit

theorem Try.infoRef : (Try.prog.info? 41).map (fun i => (i.zero, i.size, i.bytes)) = some (some (.agg #[.int .i64 0, .int .i64 0, .int .i64 0]), 3, 24) := by kernel_rfl
theorem Try.refInfo : ∃ i, LeqInfo Try.prog 29 41 i := by
  obtain ⟨i0, hi, hz0, hz1, hz2⟩ := info_parts Try.infoRef
  exact ⟨i0, Try.underlying29, hi, hz0, hz1, hz2⟩

def RefsPost (fs : List F) (w : World) (e : Ending) (w' : World) : Prop :=
  ∃ A c, e = .returned (.slice A fs.length c) ∧ w'.ownsRow w.heap.size 41 3 (.slice A fs.length c) fs.length (factCells fs) ∧ Below w.heap.size w w'

theorem take_snoc {fs : List F} {k : Nat} {f : F} (h : fs[k]? = some f) : fs.take (k + 1) = fs.take k ++ [f] := by
  rw [List.take_add_one, h]
  rfl
theorem take_len {fs : List F} {k : Nat} (h : k ≤ fs.length) : (fs.take k).length = k := by rw [List.length_take]; omega

set_option maxHeartbeats 2000000 in
theorem refs_any (A : Option Addr) (cap : Nat) (fs : List F) (w : World) (hfs : FactsAt w w.heap.size A fs) (hcm : fs.length ≤ maxLen) (hby : fs.length * 24 ≤ 140737488355328) :
    Calls Try.prog 12 #[.slice A fs.length cap] w (RefsPost fs w) := by
  have hcm' := hcm
  unfold maxLen at hcm'
  have HF := Lib.hid hfs
  clear hfs
  go_enter Try.func12, Try.ntmps12
  go_wp2
  go_loopw [3, 8] (fun v i wr => ∃ k : Nat, k ≤ fs.length ∧ i = .int .i64 k ∧ wr.ownsRow w.heap.size 41 3 v k (factCells (fs.take k)) ∧ Below w.heap.size w wr) (fun _ i _ => fs.length - (intOf i).toNat)
  case atStart => exact ⟨0, by omega, rfl, World.ownsRow_nil _ _ _ _, Below.refl _ _⟩
  case round =>
    obtain ⟨k, hk, rfl, hown, hb⟩ := hrel
    by_cases hlt : k < fs.length
    · obtain ⟨b, off, hA, hbl, hcl⟩ := HF.out (by omega)
      obtain ⟨f, hf⟩ : ∃ f, fs[k]? = some f := ⟨_, List.getElem?_eq_getElem hlt⟩
      obtain ⟨f0, f1, f2⟩ := hcl k f hf
      replace f0 := (hb.cell (p := ⟨b, off + k * 3, none⟩) hbl).trans f0
      replace f1 := (hb.cell (p := ⟨b, off + k * 3 + 1, none⟩) hbl).trans f1
      replace f2 := (hb.cell (p := ⟨b, off + k * 3 + 2, none⟩) hbl).trans f2
      subst hA
      have hz := hb.size
      have HT := Lib.hid (take_snoc hf)
      have HO := Lib.hid hown
      have HB := Lib.hid hb
      have hbw : b < wr.heap.size := by omega
      clear hcl hf hb hown
      obtain ⟨i0, I⟩ := Try.refInfo
      go_wp2_with (at_builtin; refine wpList_append_facts rfl (.tmp 12) (.tmp 20) rfl I rfl ((HO.out.alloc _).alloc _) rfl (FactsAt.lit (wr.alloc _) f _ (wr.heap.size + 1) (by simp)) rfl ?c3 ?c4 ?c5 ?_)
      case c3 => unfold maxLen; omega
      case c4 => omega
      case c5 => simp; omega
      intro A' c' w3 hown3 hgrow3
      have HO3 := Lib.hid hown3
      have HB3 := Lib.hid (((HB.out.alloc hz _).alloc (by simp; omega) _).grown hgrow3 (by simp; omega) (fun j hj => (HO.out.lt j hj).1))
      clear hown3 hgrow3
      go_wp2
      go_roundw
      case rel => exact ⟨k + 1, by omega, by go_num, by rw [HT.out]; exact HO3.out, HB3.out⟩
      case measure => simp [intOf]; omega
    · have hke : k = fs.length := by omega
      subst hke
      obtain ⟨A2, cap2, rfl, _, _⟩ := own_slice hown
      rw [List.take_of_length_le (Nat.le_refl _)] at hown
      have HO := Lib.hid hown
      have HB := Lib.hid hb
      clear hown hb
      go_wp2
      go_ret
      exact ⟨A2, cap2, rfl, HO.out, HB.out⟩

theorem any_take {n : Int} {fs : List F} {k : Nat} {f : F} (hf : fs[k]? = some f) (ho : oddB n f = true) : fs.any (oddB n) = true := List.any_eq_true.2 ⟨f, List.mem_of_getElem? hf, ho⟩

set_option maxHeartbeats 4000000 in
theorem fit_any (n : Int) (A : Option Addr) (cap : Nat) (fs : List F) (w : World) (hfs : FactsAt w w.heap.size A fs) (hcm : fs.length ≤ maxLen) :
    Calls Try.prog 11 #[.int .i64 n, .slice A fs.length cap] w fun e w' => e = .returned (.int .i64 (refuseB n fs)) ∧ Below w.heap.size w w' := by
  unfold maxLen at hcm
  have HF := Lib.hid hfs
  clear hfs
  by_cases h1 : 768 < fs.length
  · have HR := Lib.hid (show refuseB n fs = 22 by unfold refuseB; rw [if_pos h1])
    have h1' : (768 : Int) < (fs.length : Int) := by omega
    go_enter Try.func11, Try.ntmps11
    go_wp2
    go_ret
    exact ⟨ret_int HR.out.symm, Below.refl _ _⟩
  have h1' : ¬ (768 : Int) < (fs.length : Int) := by omega
  by_cases h2 : n < 1
  · have HR := Lib.hid (show refuseB n fs = 2 by unfold refuseB; rw [if_neg h1]; simp [h2])
    go_enter Try.func11, Try.ntmps11
    go_wp2
    go_ret
    exact ⟨ret_int HR.out.symm, Below.refl _ _⟩
  by_cases h3 : 96 < n
  · have HR := Lib.hid (show refuseB n fs = 2 by unfold refuseB; rw [if_neg h1]; simp [h3])
    go_enter Try.func11, Try.ntmps11
    go_wp2
    go_ret
    exact ⟨ret_int HR.out.symm, Below.refl _ _⟩
  have hd1 : decide (n < 1) = false := by simpa using h2
  have hd2 : decide (96 < n) = false := by simpa using h3
  have HR := Lib.hid (show refuseB n fs = if fs.any (oddB n) = true then 2 else 0 by unfold refuseB; rw [if_neg h1]; simp [h2, h3])
  go_enter Try.func11, Try.ntmps11
  go_wp2
  go_loopw [5] (fun i wr => ∃ k : Nat, k ≤ fs.length ∧ i = .int .i64 k ∧ Below w.heap.size w wr ∧ (fs.take k).any (oddB n) = false) (fun i _ => fs.length - (intOf i).toNat)
  case atStart => exact ⟨0, by omega, rfl, Below.refl _ _, by simp⟩
  case round =>
    obtain ⟨k, hk, rfl, hb, hno⟩ := hrel
    have HN := Lib.hid hno
    have hz := hb.size
    clear hno
    by_cases hlt : k < fs.length
    · obtain ⟨b, off, hA, hbl, hcl⟩ := HF.out (by omega)
      obtain ⟨f, hf⟩ : ∃ f, fs[k]? = some f := ⟨_, List.getElem?_eq_getElem hlt⟩
      obtain ⟨f0, f1, f2⟩ := hcl k f hf
      replace f0 := (hb.cell (p := ⟨b, off + k * 3, none⟩) hbl).trans f0
      replace f1 := (hb.cell (p := ⟨b, off + k * 3 + 1, none⟩) hbl).trans f1
      replace f2 := (hb.cell (p := ⟨b, off + k * 3 + 2, none⟩) hbl).trans f2
      subst hA
      have hbw : b < wr.heap.size := by omega
      have HB := Lib.hid hb
      have HYES : Hid (oddB n f = true → refuseB n fs = 2) := Lib.hid fun ho => by rw [HR.out, any_take hf ho]; rfl
      have HNO : Hid (oddB n f = false → (fs.take (k + 1)).any (oddB n) = false) := Lib.hid fun ho => by rw [take_snoc hf, any_snoc, HN.out, ho]; rfl
      clear hcl hf hb
      obtain ⟨x, y, c⟩ := f
      simp only at f0 f1 f2
      have HOD : Hid (oddB n ⟨x, y, c⟩ = (decide (x < 0) || decide (n ≤ x) || decide (y < 0) || decide (n ≤ y) || decide (c < -8796093022208) || decide (8796093022208 < c))) := Lib.hid rfl
      go_wp2
      all_goals first
        | (go_ret; exact ⟨ret_int (HYES.out (by rw [HOD.out]; first | (simp [*]; done) | (simp only [Bool.or_eq_true, decide_eq_true_eq]; omega))).symm, (HB.out.alloc hz _)⟩)
        | (go_roundw
           case rel => exact ⟨k + 1, by omega, by go_num, HB.out.alloc hz _, HNO.out (by rw [HOD.out]; first | (simp [*]; done) | (simp only [Bool.or_eq_false_iff, decide_eq_false_iff_not]; omega))⟩
           case measure => simp [intOf]; omega)
    · have HB := Lib.hid hb
      have HZ : Hid (refuseB n fs = 0) := Lib.hid (by
        have := HN.out
        rw [List.take_of_length_le (by omega)] at this
        rw [HR.out, this]
        rfl)
      clear hb
      go_wp2
      go_ret
      exact ⟨ret_int HZ.out.symm, HB.out⟩

end Go.Proofs.Ytpoohappocehdaa
