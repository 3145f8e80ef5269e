/- The contracts of cert.Holds, fit. -/
import Derived.Test.YtooogmppfjgdpaaCHold
import Derived.Laws.EntriesVeiled
namespace Go.Proofs.Ytooogmppfjgdpaa
open Go.RowKit

theorem idx_fit_yes (p : F → Bool) {fs : List F} {k : Nat} {f : F} (hf : fs[k]? = some f) (ho : p f = true) : decide (0 ≤ (k : Int)) = fs.any p := by
  have h : fs.any p = true := List.any_eq_true.2 ⟨f, List.mem_of_getElem? hf, ho⟩
  rw [h]
  simp
theorem idx_fit_no (p : F → Bool) {fs : List F} {k : Nat} (hk : fs.length ≤ k) (ho : (fs.take k).any p = false) : decide (0 ≤ (-1 : Int)) = fs.any p := by
  rw [List.take_of_length_le hk] at ho
  rw [ho]
  rfl
def IdxPost_fit (p : F → Bool) (fs : List F) (w : World) (e : Ending) (w' : World) : Prop := ∃ i : Int, e = .returned (.int .i64 i) ∧ (decide (0 ≤ i) = fs.any p) ∧ Below w.heap.size w w'

set_option maxHeartbeats 1000000 in
theorem idx_fit (n : Int) (g : Nat) (AF : Option Addr) (capF : Nat) (fs : List F) (w : World) (hE : w.cell? ⟨g, 0, none⟩ = some (.int .i64 n) ∧ g < w.heap.size) (hfs : FactsAt w w.heap.size AF fs) (hl : fs.length ≤ maxLen) :
    Calls Try.prog 35 #[.slice AF fs.length capF, .func (.func 36) #[] #[.pointer (some ⟨g, 0, none⟩)]] w (IdxPost_fit (oddB n) fs w) := by
  unfold maxLen at hl
  have HF := Lib.hid hfs
  have HE := Lib.hid hE
  clear hfs hE
  obtain ⟨p, HP⟩ : ∃ p, Hid ((oddB n) = p) := ⟨_, Lib.hid rfl⟩
  rw [HP.out]
  go_enter Try.func35, Try.ntmps35
  go_wp2
  go_loopw [8] (fun i wr => ∃ k : Nat, k ≤ fs.length ∧ i = .int .i64 k ∧ Below w.heap.size w wr ∧ (fs.take k).any p = false) (fun i _ => fs.length - (intOf i).toNat)
  case atStart => exact ⟨0, by omega, rfl, Below.refl _ _, by simp⟩
  case round =>
    obtain ⟨k, hk, rfl, hb, hno⟩ := hrel
    have HB := Lib.hid hb
    have HN := Lib.hid hno
    clear hb hno
    by_cases hlt2 : k < fs.length
    · obtain ⟨b, off, rfl, hbl, hc⟩ := HF.out (by omega)
      obtain ⟨f, hf⟩ : ∃ f, fs[k]? = some f := ⟨_, List.getElem?_eq_getElem hlt2⟩
      obtain ⟨c0, c1, c2⟩ := hc k f hf
      have d0 := (HB.out.cell (p := ⟨b, off + k * 3, none⟩) hbl).trans c0
      have d1 := (HB.out.cell (p := ⟨b, off + k * 3 + 1, none⟩) hbl).trans c1
      have d2 := (HB.out.cell (p := ⟨b, off + k * 3 + 2, none⟩) hbl).trans c2
      clear hc c0 c1 c2
      have HFF := Lib.hid hf
      clear hf
      go_wp2_with fail
      refine (fitOdd_any n g f _ ((HB.out.cell (p := ⟨g, 0, none⟩) HE.out.2).trans HE.out.1) (Nat.lt_of_lt_of_le HE.out.2 HB.out.size)).mono ?_
      rw [show (oddB n) f = p f by rw [HP.out]]
      rintro e w1 ⟨rfl, hb1⟩
      have HB1 := Lib.hid (HB.out.trans (hb1.mono HB.out.size))
      clear hb1
      cases ho : p f
      · go_wp2
        go_roundw
        case rel => exact ⟨k + 1, by omega, by go_num, HB1.out, by rw [List.take_add_one, List.any_append, HN.out, HFF.out]; simp [ho]⟩
        case measure => simp [intOf]; omega
      · go_wp2
        go_ret
        exact ⟨k, rfl, idx_fit_yes p HFF.out ho, HB1.out⟩
    · go_wp2
      go_ret
      exact ⟨-1, rfl, idx_fit_no p (by omega) HN.out, HB.out⟩

set_option maxHeartbeats 1000000 in
theorem has_fit (n : Int) (g : Nat) (AF : Option Addr) (capF : Nat) (fs : List F) (w : World) (hE : w.cell? ⟨g, 0, none⟩ = some (.int .i64 n) ∧ g < w.heap.size) (hfs : FactsAt w w.heap.size AF fs) (hl : fs.length ≤ maxLen) :
    Calls Try.prog 23 #[.slice AF fs.length capF, .func (.func 36) #[] #[.pointer (some ⟨g, 0, none⟩)]] w fun e w' => e = .returned (.bool (fs.any (oddB n))) ∧ Below w.heap.size w w' := by
  go_enter Try.func23, Try.ntmps23
  go_wp2_with fail
  refine (idx_fit n g AF capF fs w hE hfs hl).mono ?_
  rintro e w1 ⟨i, rfl, hi, hb⟩
  have HI := Lib.hid hi
  have HB := Lib.hid hb
  clear hi hb
  go_wp2
  go_ret
  exact ⟨ret_bool HI.out, HB.out⟩

def holdsB (zs : List Int) (fs : List F) : Bool := !fs.any (holdOdd zs)

set_option maxHeartbeats 1000000 in
theorem holds_any (zs : List Int) (A : Option Addr) (cap : Nat) (AF : Option Addr) (capF : Nat) (fs : List F) (w : World) (hzs : NumsAt w w.heap.size A zs) (hzl : zs.length ≤ maxLen) (hfs : FactsAt w w.heap.size AF fs) (hl : fs.length ≤ maxLen) :
    Calls Try.prog 13 #[.slice A zs.length cap, .slice AF fs.length capF] w fun e w' => e = .returned (.bool (holdsB zs fs)) ∧ Below w.heap.size w w' := by
  have HZ := Lib.hid hzs
  have HF := Lib.hid hfs
  clear hzs hfs
  have HR := Lib.hid (show holdsB zs fs = !fs.any (holdOdd zs) from rfl)
  go_enter Try.func13, Try.ntmps13
  go_wp2_with fail
  have HB0 := Lib.hid (((Below.refl w.heap.size w).alloc (Nat.le_refl _) (.cells #[.slice A zs.length cap] 30)).alloc (by simp) (.cells #[.func (.func 20) #[] #[.pointer (some ⟨w.heap.size, 0, none⟩)]] 53))
  refine (has_hold zs (w.heap.size + 1) w.heap.size cap A AF capF fs _ ⟨by simp, by simp, by simp, by simp; omega, (HZ.out.below HB0.out (Nat.le_refl _)).more HB0.out.size, hzl⟩ ((HF.out.below HB0.out (Nat.le_refl _)).more HB0.out.size) hl).mono ?_
  rintro e w1 ⟨rfl, hb1⟩
  have HB1 := Lib.hid (HB0.out.trans (hb1.mono HB0.out.size))
  clear hb1
  go_wp2
  go_ret
  exact ⟨ret_bool HR.out.symm, HB1.out⟩


def fitB (n : Int) (g : F) (fs : List F) : Bool := decide (1 ≤ n) && decide (n ≤ 96) && decide (fs.length < 768) && !oddB n g && (g.c != 8796093022208) && !fs.any (oddB n)

set_option maxHeartbeats 1000000 in
theorem fit_cert (n : Int) (g : F) (AF : Option Addr) (capF : Nat) (fs : List F) (w : World) (hfs : FactsAt w w.heap.size AF fs) (hl : fs.length ≤ maxLen) :
    Calls Try.prog 24 #[.int .i64 n, .agg #[.int .i64 g.x, .int .i64 g.y, .int .i64 g.c], .slice AF fs.length capF] w fun e w' => e = .returned (.bool (fitB n g fs)) ∧ Below w.heap.size w w' := by
  have HF := Lib.hid hfs
  clear hfs
  by_cases h0 : 1 ≤ n
  · by_cases h1 : n ≤ 96
    · by_cases h2 : fs.length < 768
      · have h2' : (fs.length : Int) < 768 := by omega
        go_enter Try.func24, Try.ntmps24
        go_wp2_with fail
        refine (fitOdd_any n w.heap.size g _ (by simp) (by simp; omega)).mono ?_
        rintro e w1 ⟨rfl, hb1⟩
        have hn := (hb1.cell (p := ⟨w.heap.size, 0, none⟩) (by simp; omega)).trans (show _ = some (Value.int .i64 n) by simp)
        have hg2 := (hb1.cell (p := ⟨w.heap.size + 1, 2, none⟩) (by simp)).trans (show _ = some (Value.int .i64 g.c) by simp)
        have HB1 := Lib.hid ((((Below.refl w.heap.size w).alloc (Nat.le_refl _) _).alloc (by simp) _).trans (hb1.mono (by simp; omega)))
        have hw1 : w.heap.size < w1.heap.size := Nat.lt_of_lt_of_le (by simp; omega) hb1.size
        clear hb1
        cases ho : oddB n g
        · by_cases hc : g.c = 8796093022208
          · have t1 : (g.c != 8796093022208) = false := by simpa using hc
            have t2 : (g.c == 8796093022208) = true := by simpa using hc
            have HR := Lib.hid (show fitB n g fs = false by unfold fitB; simp [hc])
            go_wp2
            go_ret
            exact ⟨ret_bool HR.out.symm, HB1.out⟩
          · have t1 : (g.c != 8796093022208) = true := by simpa using hc
            have t2 : (g.c == 8796093022208) = false := by simpa using hc
            have HR := Lib.hid (show fitB n g fs = !fs.any (oddB n) by unfold fitB; simp [h0, h1, h2, ho, hc])
            go_wp2_with fail
            refine (has_fit n w.heap.size AF capF fs _ ⟨hn, hw1⟩ ((HF.out.below HB1.out (Nat.le_refl _)).more HB1.out.size) hl).mono ?_
            rintro e w2 ⟨rfl, hb2⟩
            have HB2 := Lib.hid (HB1.out.trans (hb2.mono HB1.out.size))
            clear hb2
            go_wp2
            go_ret
            exact ⟨ret_bool HR.out.symm, HB2.out⟩
        · have HR := Lib.hid (show fitB n g fs = false by unfold fitB; simp [ho])
          go_wp2
          go_ret
          exact ⟨ret_bool HR.out.symm, HB1.out⟩
      · have h2' : ¬ (fs.length : Int) < 768 := by omega
        have HR := Lib.hid (show fitB n g fs = false by unfold fitB; rw [decide_eq_false h2]; simp)
        go_enter Try.func24, Try.ntmps24
        go_wp2
        go_ret
        exact ⟨ret_bool HR.out.symm, by go_grown⟩
    · have HR := Lib.hid (show fitB n g fs = false by unfold fitB; rw [decide_eq_false h1]; simp)
      go_enter Try.func24, Try.ntmps24
      go_wp2
      go_ret
      exact ⟨ret_bool HR.out.symm, by go_grown⟩
  · have HR := Lib.hid (show fitB n g fs = false by unfold fitB; rw [decide_eq_false h0]; simp)
    go_enter Try.func24, Try.ntmps24
    go_wp2
    go_ret
    exact ⟨ret_bool HR.out.symm, by go_grown⟩

end Go.Proofs.Ytooogmppfjgdpaa
