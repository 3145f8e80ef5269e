/- The contract of lychgateref05.Holds. -/
import Derived.Test.YtooogmppfjgdpaaCRefC
namespace Go.Proofs.Ytooogmppfjgdpaa
open Go.RowKit

theorem fact_any_true {p : F → Bool} {l : List F} {k : Nat} {f : F} (hf : l[k]? = some f) (ho : p f = true) : l.any p = true :=
  List.any_eq_true.2 ⟨f, List.mem_of_getElem? hf, ho⟩

theorem odd_k1 {zs : List Int} {x y c : Int} (k1 : x < 0) : holdOdd zs ⟨x, y, c⟩ = true := by
  unfold holdOdd fineB inB
  simp only [Bool.or_eq_true, Bool.not_eq_true', Bool.and_eq_false_iff, decide_eq_false_iff_not, decide_eq_true_eq]
  omega
theorem odd_k2 {zs : List Int} {x y c : Int} (k2 : (zs.length : Int) ≤ x) : holdOdd zs ⟨x, y, c⟩ = true := by
  unfold holdOdd fineB inB
  simp only [Bool.or_eq_true, Bool.not_eq_true', Bool.and_eq_false_iff, decide_eq_false_iff_not, decide_eq_true_eq]
  omega
theorem odd_k3 {zs : List Int} {x y c : Int} (k3 : y < 0) : holdOdd zs ⟨x, y, c⟩ = true := by
  unfold holdOdd fineB inB
  simp only [Bool.or_eq_true, Bool.not_eq_true', Bool.and_eq_false_iff, decide_eq_false_iff_not, decide_eq_true_eq]
  omega
theorem odd_k4 {zs : List Int} {x y c : Int} (k4 : (zs.length : Int) ≤ y) : holdOdd zs ⟨x, y, c⟩ = true := by
  unfold holdOdd fineB inB
  simp only [Bool.or_eq_true, Bool.not_eq_true', Bool.and_eq_false_iff, decide_eq_false_iff_not, decide_eq_true_eq]
  omega
theorem odd_k5 {zs : List Int} {x y c : Int} (k5 : (17592186044416 : Int) < c) : holdOdd zs ⟨x, y, c⟩ = true := by
  unfold holdOdd fineB inB
  simp only [Bool.or_eq_true, Bool.not_eq_true', Bool.and_eq_false_iff, decide_eq_false_iff_not, decide_eq_true_eq]
  omega
theorem odd_k6 {zs : List Int} {x y c : Int} (k6 : c < (-17592186044416 : Int)) : holdOdd zs ⟨x, y, c⟩ = true := by
  unfold holdOdd fineB inB
  simp only [Bool.or_eq_true, Bool.not_eq_true', Bool.and_eq_false_iff, decide_eq_false_iff_not, decide_eq_true_eq]
  omega
theorem odd_rest {zs : List Int} {kx ky : Nat} {c : Int} (hx : kx < zs.length) (hy : ky < zs.length) (h0 : -17592186044416 ≤ c) (h1 : c ≤ 17592186044416) : holdOdd zs ⟨kx, ky, c⟩ = (decide (4503599627370496 < zs.getD kx 0) || decide (zs.getD kx 0 < -4503599627370496) || decide (4503599627370496 < zs.getD ky 0) || decide (zs.getD ky 0 < -4503599627370496) || decide (c < zs.getD kx 0 - zs.getD ky 0)) := by
  unfold holdOdd fineB inB
  simp only [Int.toNat_natCast]
  rw [Bool.eq_iff_iff]
  simp only [Bool.or_eq_true, Bool.not_eq_true', Bool.and_eq_false_iff, decide_eq_false_iff_not, decide_eq_true_eq]
  omega

set_option maxHeartbeats 8000000 in
set_option maxRecDepth 100000 in
theorem refHolds_any (zs : List Int) (A : Option Addr) (cap : Nat) (AF : Option Addr) (capF : Nat) (fs : List F) (w : World) (hzs : NumsAt w w.heap.size A zs) (hzl : zs.length ≤ maxLen) (hfs : FactsAt w w.heap.size AF fs) (hl : fs.length ≤ maxLen) :
    Calls Try.prog 14 #[.slice A zs.length cap, .slice AF fs.length capF] w fun e w' => e = .returned (.bool (holdsB zs fs)) ∧ Below w.heap.size w w' := by
  unfold maxLen at hzl hl
  have HZ := Lib.hid hzs
  have HF := Lib.hid hfs
  clear hzs hfs
  have HHB := Lib.hid (show holdsB zs fs = !fs.any (holdOdd zs) from rfl)
  go_enter Try.func14, Try.ntmps14
  go_wp2
  go_loopw [5] (fun i wr => ∃ j : Nat, j ≤ fs.length ∧ i = .int .i64 j ∧ Below w.heap.size w wr ∧ (fs.take j).any (holdOdd zs) = false) (fun i _ => fs.length - (intOf i).toNat)
  case atStart => exact ⟨0, by omega, rfl, Below.refl _ _, by simp⟩
  case round =>
    obtain ⟨j, hj, rfl, hb, hno⟩ := hrel
    have HB := Lib.hid hb
    have HNO := Lib.hid hno
    clear hb hno
    by_cases hjl : j < fs.length
    · obtain ⟨b, off, rfl, hbl, hc⟩ := HF.out (by omega)
      obtain ⟨f, hf⟩ : ∃ f, fs[j]? = some f := ⟨_, List.getElem?_eq_getElem hjl⟩
      obtain ⟨c0, c1, c2⟩ := hc j f hf
      have d0 := (HB.out.cell (p := ⟨b, off + j * 3, none⟩) hbl).trans c0
      have d1 := (HB.out.cell (p := ⟨b, off + j * 3 + 1, none⟩) hbl).trans c1
      have d2 := (HB.out.cell (p := ⟨b, off + j * 3 + 2, none⟩) hbl).trans c2
      have hjj : (j : Int) < (fs.length : Int) := by omega
      have HFF := Lib.hid hf
      have hsz : w.heap.size ≤ wr.heap.size := HB.out.size
      clear hc c0 c1 c2 hf
      obtain ⟨x, y, c⟩ := f
      simp only at d0 d1 d2
      by_cases k1 : x < 0
      · have HR := Lib.hid (show holdsB zs fs = false by rw [HHB.out, fact_any_true HFF.out (odd_k1 k1)]; rfl)
        go_wp2
        go_ret
        exact ⟨ret_bool HR.out.symm, HB.out.alloc hsz _⟩
      · skip
        by_cases k2 : (zs.length : Int) ≤ x
        · have HR := Lib.hid (show holdsB zs fs = false by rw [HHB.out, fact_any_true HFF.out (odd_k2 k2)]; rfl)
          go_wp2
          go_ret
          exact ⟨ret_bool HR.out.symm, HB.out.alloc hsz _⟩
        · skip
          by_cases k3 : y < 0
          · have HR := Lib.hid (show holdsB zs fs = false by rw [HHB.out, fact_any_true HFF.out (odd_k3 k3)]; rfl)
            go_wp2
            go_ret
            exact ⟨ret_bool HR.out.symm, HB.out.alloc hsz _⟩
          · skip
            by_cases k4 : (zs.length : Int) ≤ y
            · have HR := Lib.hid (show holdsB zs fs = false by rw [HHB.out, fact_any_true HFF.out (odd_k4 k4)]; rfl)
              go_wp2
              go_ret
              exact ⟨ret_bool HR.out.symm, HB.out.alloc hsz _⟩
            · skip
              by_cases k5 : (17592186044416 : Int) < c
              · have HR := Lib.hid (show holdsB zs fs = false by rw [HHB.out, fact_any_true HFF.out (odd_k5 k5)]; rfl)
                go_wp2
                go_ret
                exact ⟨ret_bool HR.out.symm, HB.out.alloc hsz _⟩
              · skip
                by_cases k6 : c < (-17592186044416 : Int)
                · have HR := Lib.hid (show holdsB zs fs = false by rw [HHB.out, fact_any_true HFF.out (odd_k6 k6)]; rfl)
                  go_wp2
                  go_ret
                  exact ⟨ret_bool HR.out.symm, HB.out.alloc hsz _⟩
                · skip
                  obtain ⟨kx, rfl⟩ := Int.eq_ofNat_of_zero_le (Int.not_lt.1 k1)
                  obtain ⟨ky, rfl⟩ := Int.eq_ofNat_of_zero_le (Int.not_lt.1 k3)
                  obtain ⟨zb, zo, rfl, hzb, hzc⟩ := HZ.out (by omega)
                  have z0 := (HB.out.cell (p := ⟨zb, zo + kx, none⟩) hzb).trans (hzc kx (by omega))
                  have z1 := (HB.out.cell (p := ⟨zb, zo + ky, none⟩) hzb).trans (hzc ky (by omega))
                  have HO := Lib.hid (odd_rest (zs := zs) (c := c) (show kx < zs.length by omega) (show ky < zs.length by omega) (by omega) (by omega))
                  have hzwr : zb < wr.heap.size := by omega
                  have kx' : (kx : Int) < (zs.length : Int) := by omega
                  have ky' : (ky : Int) < (zs.length : Int) := by omega
                  clear hzc
                  generalize zs.getD kx 0 = X at *
                  generalize zs.getD ky 0 = Y at *
                  by_cases k7 : (4503599627370496 : Int) < X
                  · have HR := Lib.hid (show holdsB zs fs = false by rw [HHB.out, fact_any_true HFF.out (by rw [HO.out]; simp; omega)]; rfl)
                    go_wp2
                    go_ret
                    exact ⟨ret_bool HR.out.symm, HB.out.alloc hsz _⟩
                  · skip
                    by_cases k8 : X < (-4503599627370496 : Int)
                    · have HR := Lib.hid (show holdsB zs fs = false by rw [HHB.out, fact_any_true HFF.out (by rw [HO.out]; simp; omega)]; rfl)
                      go_wp2
                      go_ret
                      exact ⟨ret_bool HR.out.symm, HB.out.alloc hsz _⟩
                    · skip
                      by_cases k9 : (4503599627370496 : Int) < Y
                      · have HR := Lib.hid (show holdsB zs fs = false by rw [HHB.out, fact_any_true HFF.out (by rw [HO.out]; simp; omega)]; rfl)
                        go_wp2
                        go_ret
                        exact ⟨ret_bool HR.out.symm, HB.out.alloc hsz _⟩
                      · skip
                        by_cases k10 : Y < (-4503599627370496 : Int)
                        · have HR := Lib.hid (show holdsB zs fs = false by rw [HHB.out, fact_any_true HFF.out (by rw [HO.out]; simp; omega)]; rfl)
                          go_wp2
                          go_ret
                          exact ⟨ret_bool HR.out.symm, HB.out.alloc hsz _⟩
                        · skip
                          have hww : IntKind.i64.wrap (X - Y) = X - Y := IntWalk.i64_in _ (by omega)
                          by_cases k11 : c < X - Y
                          · have HR := Lib.hid (show holdsB zs fs = false by rw [HHB.out, fact_any_true HFF.out (by rw [HO.out]; simp; omega)]; rfl)
                            go_wp2
                            go_ret
                            exact ⟨ret_bool HR.out.symm, HB.out.alloc hsz _⟩
                          · skip
                            have HNX : Hid ((fs.take (j + 1)).any (holdOdd zs) = false) := Lib.hid (by rw [List.take_add_one, List.any_append, HNO.out, HFF.out]; simp only [Option.toList, List.any_cons, List.any_nil, HO.out]; simp; omega)
                            go_wp2
                            go_roundw
                            case rel => exact ⟨j + 1, by omega, by go_num, HB.out.alloc hsz _, HNX.out⟩
                            case measure => simp [intOf]; omega
    · have hje : j = fs.length := by omega
      subst hje
      have hno := HNO.out
      rw [List.take_of_length_le (Nat.le_refl _)] at hno
      have HR := Lib.hid (show holdsB zs fs = true by rw [HHB.out, hno]; rfl)
      clear hno
      go_wp2
      go_ret
      exact ⟨ret_bool HR.out.symm, HB.out⟩

end Go.Proofs.Ytooogmppfjgdpaa
