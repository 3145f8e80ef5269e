/- The contracts of cert.isCircle and cert.Circle. -/
import Derived.Test.YtooogmppfjgdpaaCCirc
namespace Go.Proofs.Ytooogmppfjgdpaa
open Go.RowKit

theorem int_yes (p : Int → Bool) {l : List Int} {k : Nat} (hk : k < l.length) (ho : p (l.getD k 0) = true) : decide (0 ≤ (k : Int)) = l.any p := by
  have h : l.any p = true := List.any_eq_true.2 ⟨l.getD k 0, by rw [List.getD_eq_getElem?_getD, List.getElem?_eq_getElem hk]; exact List.getElem_mem hk, ho⟩
  rw [h]
  simp
theorem int_no (p : Int → Bool) {l : List Int} {k : Nat} (hk : l.length ≤ k) (ho : (l.take k).any p = false) : decide (0 ≤ (-1 : Int)) = l.any p := by
  rw [List.take_of_length_le hk] at ho
  rw [ho]
  rfl
theorem int_next (p : Int → Bool) {l : List Int} {k : Nat} (hk : k < l.length) (h : (l.take k).any p = false) (ho : p (l.getD k 0) = false) : (l.take (k + 1)).any p = false := by
  rw [List.getD_eq_getElem?_getD, List.getElem?_eq_getElem hk] at ho
  rw [List.take_succ_eq_append_getElem hk, List.any_append, h]
  simpa using ho
def IdxI (p : Int → Bool) (l : List Int) (w : World) (e : Ending) (w' : World) : Prop := ∃ i : Int, e = .returned (.int .i64 i) ∧ (decide (0 ≤ i) = l.any p) ∧ Below w.heap.size w w'

set_option maxHeartbeats 1000000 in
theorem idx_circ (fs : List F) (g capF : Nat) (AF : Option Addr) (A : Option Addr) (cap : Nat) (l : List Int) (w : World) (hg : w.cell? ⟨g, 0, none⟩ = some (.slice AF fs.length capF)) (hgl : g < w.heap.size) (hfs : FactsAt w w.heap.size AF fs) (hfl : fs.length ≤ maxLen) (hls : NumsAt w w.heap.size A l) (hl : l.length ≤ maxLen) :
    Calls Try.prog 43 #[.slice A l.length cap, .func (.func 31) #[] #[.pointer (some ⟨g, 0, none⟩)]] w (IdxI (circOdd fs) l w) := by
  unfold maxLen at hl
  have HF := Lib.hid hfs
  have HL := Lib.hid hls
  clear hfs hls
  obtain ⟨p, HP⟩ : ∃ p, Hid (circOdd fs = p) := ⟨_, Lib.hid rfl⟩
  rw [HP.out]
  go_enter Try.func43, Try.ntmps43
  go_wp2
  go_loopw [8] (fun i wr => ∃ k : Nat, k ≤ l.length ∧ i = .int .i64 k ∧ Below w.heap.size w wr ∧ (l.take k).any p = false) (fun i _ => l.length - (intOf i).toNat)
  case atStart => exact ⟨0, by omega, rfl, Below.refl _ _, by simp⟩
  case round =>
    obtain ⟨k, hk, rfl, hb, hno⟩ := hrel
    have HB := Lib.hid hb
    have HN := Lib.hid hno
    clear hb hno
    by_cases hlt2 : k < l.length
    · obtain ⟨b, off, rfl, hbl, hc⟩ := HL.out (by omega)
      have d0 := (HB.out.cell (p := ⟨b, off + k, none⟩) hbl).trans (hc k hlt2)
      clear hc
      obtain ⟨z, hz⟩ : ∃ z, l.getD k 0 = z := ⟨_, rfl⟩
      rw [hz] at d0
      have HZ := Lib.hid hz
      clear hz
      go_wp2_with fail
      refine (circOdd_any fs _ g capF AF _ ((HB.out.cell (p := ⟨g, 0, none⟩) hgl).trans hg) ((HF.out.below HB.out (Nat.le_refl _)).more HB.out.size) hfl).mono ?_
      rw [HP.out]
      rintro e w1 ⟨rfl, rfl⟩
      cases ho : p z
      · go_wp2
        go_roundw
        case rel => exact ⟨k + 1, by omega, by go_num, HB.out, int_next p hlt2 HN.out (by rw [HZ.out]; exact ho)⟩
        case measure => simp [intOf]; omega
      · go_wp2
        go_ret
        exact ⟨k, rfl, int_yes p hlt2 (by rw [HZ.out]; exact ho), HB.out⟩
    · go_wp2
      go_ret
      exact ⟨-1, rfl, int_no p (by omega) HN.out, HB.out⟩

set_option maxHeartbeats 1000000 in
theorem has_circ (fs : List F) (g capF : Nat) (AF : Option Addr) (A : Option Addr) (cap : Nat) (l : List Int) (w : World) (hg : w.cell? ⟨g, 0, none⟩ = some (.slice AF fs.length capF)) (hgl : g < w.heap.size) (hfs : FactsAt w w.heap.size AF fs) (hfl : fs.length ≤ maxLen) (hls : NumsAt w w.heap.size A l) (hl : l.length ≤ maxLen) :
    Calls Try.prog 32 #[.slice A l.length cap, .func (.func 31) #[] #[.pointer (some ⟨g, 0, none⟩)]] w fun e w' => e = .returned (.bool (l.any (circOdd fs))) ∧ Below w.heap.size w w' := by
  go_enter Try.func32, Try.ntmps32
  go_wp2_with fail
  refine (idx_circ fs g capF AF A cap l w hg hgl hfs hfl hls hl).mono ?_
  rintro e w1 ⟨i, rfl, hi, hb⟩
  have HI := Lib.hid hi
  have HB := Lib.hid hb
  clear hi hb
  go_wp2
  go_ret
  exact ⟨ret_bool HI.out, HB.out⟩

/- The numbers are a circle of facts, each with a C within its bounds. -/
def CircP (l : List Int) (fs : List F) : Prop := ∃ k : List Nat, l = natInts k ∧ IsCircle fs k ∧ Good fs k

theorem getD_map_toNat (l : List Int) (i : Nat) : (l.map Int.toNat).getD i 0 = (l.getD i 0).toNat := by
  rw [List.getD_eq_getElem?_getD, List.getElem?_map, List.getD_eq_getElem?_getD]
  cases l[i]? <;> rfl

theorem circOdd_false {fs : List F} {v : Int} (h : circOdd fs v = false) : ∃ k : Nat, v = k ∧ k < fs.length ∧ -17592186044416 ≤ (fs.getD k zeroF).c ∧ (fs.getD k zeroF).c ≤ 17592186044416 := by
  unfold circOdd inB at h
  simp only [Bool.or_eq_false_iff, decide_eq_false_iff_not, Bool.not_eq_false', Bool.and_eq_true, decide_eq_true_eq] at h
  obtain ⟨⟨h0, h1⟩, h2, h3⟩ := h
  obtain ⟨k, rfl⟩ := Int.eq_ofNat_of_zero_le (Int.not_lt.1 h0)
  rw [Int.toNat_natCast] at h2 h3
  exact ⟨k, rfl, by omega, h2, h3⟩

theorem good_of {fs : List F} {l : List Int} (h : l.any (circOdd fs) = false) : ∃ k : List Nat, l = natInts k ∧ Good fs k := by
  have hv : ∀ i, i < l.length → ∃ k : Nat, l.getD i 0 = k ∧ k < fs.length ∧ -17592186044416 ≤ (fs.getD k zeroF).c ∧ (fs.getD k zeroF).c ≤ 17592186044416 := fun i hi => by
    refine circOdd_false ?_
    have hm : l.getD i 0 ∈ l := by rw [List.getD_eq_getElem?_getD, List.getElem?_eq_getElem hi]; exact List.getElem_mem hi
    exact Bool.eq_false_iff.2 fun ht => by rw [List.any_eq_true.2 ⟨_, hm, ht⟩] at h; cases h
  refine ⟨l.map Int.toNat, ?_, ?_, ?_, ?_⟩
  · apply List.ext_getElem?
    intro i
    unfold natInts
    rw [List.map_map, List.getElem?_map]
    by_cases hi : i < l.length
    · obtain ⟨k, e, _⟩ := hv i hi
      rw [List.getD_eq_getElem?_getD, List.getElem?_eq_getElem hi] at e
      rw [List.getElem?_eq_getElem hi]
      change l[i] = (k : Int) at e
      simp [e]
    · rw [List.getElem?_eq_none (by omega)]
      rfl
  all_goals
    intro i hi
    rw [List.length_map] at hi
    obtain ⟨k, e, h1, h2, h3⟩ := hv i hi
    rw [getD_map_toNat, e, Int.toNat_natCast]
    assumption

theorem circP_odd {fs : List F} {l : List Int} (h : CircP l fs) : l.any (circOdd fs) = false := by
  obtain ⟨k, rfl, hk, hg⟩ := h
  refine Bool.eq_false_iff.2 fun ht => ?_
  obtain ⟨v, hv, ho⟩ := List.any_eq_true.1 ht
  obtain ⟨q, hq, rfl⟩ := List.mem_map.1 hv
  obtain ⟨i, hi, e⟩ := List.getElem_of_mem hq
  have h1 := hg.lt i hi
  have h2 := hg.c0 i hi
  have h3 := hg.c1 i hi
  rw [List.getD_eq_getElem?_getD (l := k), List.getElem?_eq_getElem hi, e] at h1 h2 h3
  change q < fs.length at h1
  change _ ≤ (fs.getD q zeroF).c at h2
  change (fs.getD q zeroF).c ≤ _ at h3
  unfold circOdd inB at ho
  rw [Int.toNat_natCast] at ho
  simp only [Bool.or_eq_true, decide_eq_true_eq, Bool.not_eq_true', Bool.and_eq_false_iff, decide_eq_false_iff_not] at ho
  omega

theorem natInts_inj {a b : List Nat} (h : natInts a = natInts b) : a = b := by
  unfold natInts at h
  exact List.map_inj_right (fun _ _ e => by omega) |>.1 h

theorem circP_iff {fs : List F} {k : List Nat} (hg : Good fs k) (h0 : 0 < k.length) : CircP (natInts k) fs ↔ (∀ i, i < k.length → (fs.getD (k.getD i 0) zeroF).y = (fs.getD (k.getD ((i + 1) % k.length) 0) zeroF).x) ∧ (costs fs k).sum < 0 := by
  constructor
  · rintro ⟨k', e, hc, _⟩
    cases natInts_inj e
    exact ⟨hc.nx, hc.neg⟩
  · rintro ⟨h1, h2⟩
    exact ⟨k, rfl, ⟨h0, hg.lt, h1, h2⟩, hg⟩

def CircPost (l : List Int) (fs : List F) (w : World) (e : Ending) (w' : World) : Prop := ∃ r, e = .returned (.bool r) ∧ (r = true ↔ CircP l fs) ∧ Below w.heap.size w w'

set_option maxHeartbeats 2000000 in
theorem isCircle_any (AF : Option Addr) (capF : Nat) (fs : List F) (A : Option Addr) (cap : Nat) (l : List Int) (w : World) (hfs : FactsAt w w.heap.size AF fs) (hfl : fs.length ≤ maxLen) (hls : NumsAt w w.heap.size A l) (hl : l.length ≤ 1099511627776) :
    Calls Try.prog 19 #[.slice A l.length cap, .slice AF fs.length capF] w (CircPost l fs w) := by
  have HF := Lib.hid hfs
  have HL := Lib.hid hls
  clear hfs hls
  have HB0 := Lib.hid ((Below.refl w.heap.size w).alloc (Nat.le_refl _) (.cells #[.slice AF fs.length capF] 23))
  by_cases h0 : l.length = 0
  · have HN : Hid (¬ CircP l fs) := Lib.hid (by rintro ⟨k, rfl, hk, _⟩; have := hk.ne; rw [natInts_len] at h0; omega)
    have t0 : (l.length : Int) = 0 := by omega
    go_enter Try.func19, Try.ntmps19
    go_wp2
    go_ret
    exact ⟨false, rfl, ⟨fun h => (by cases h), fun h => absurd h HN.out⟩, HB0.out⟩
  · have t1 : (l.length : Int) ≠ 0 := by omega
    have t0 : ((l.length : Int) == 0) = false := beq_eq_false_iff_ne.2 t1
    go_enter Try.func19, Try.ntmps19
    go_wp2_with fail
    refine (has_circ fs w.heap.size capF AF A cap l _ (by simp) (by simp) ((HF.out.below HB0.out (Nat.le_refl _)).more HB0.out.size) hfl ((HL.out.below HB0.out (Nat.le_refl _)).more HB0.out.size) (by unfold maxLen; omega)).mono ?_
    rintro e w1 ⟨rfl, hb1⟩
    have HB1 := Lib.hid (HB0.out.trans (hb1.mono HB0.out.size))
    have hcell := (hb1.cell (p := ⟨w.heap.size, 0, none⟩) (by simp)).trans (show _ = some (Value.slice AF fs.length capF) by simp)
    have hw1 : w.heap.size < w1.heap.size := Nat.lt_of_lt_of_le (by simp) hb1.size
    clear hb1
    cases ho : l.any (circOdd fs)
    · obtain ⟨k, rfl, hg⟩ := good_of ho
      rw [natInts_len] at *
      have hk0 : 0 < k.length := by omega
      have HI := Lib.hid (circP_iff hg hk0)
      have HG := Lib.hid hg
      clear hg ho
      go_wp2_with fail
      refine (joined_any AF A capF cap fs k w1 ((HF.out.below HB1.out (Nat.le_refl _)).more HB1.out.size) ((HL.out.below HB1.out (Nat.le_refl _)).more HB1.out.size) HG.out.lt hk0 (by unfold maxLen; omega) hfl).mono ?_
      rintro e w2 ⟨r, rfl, hr, hb2⟩
      have HB2 := Lib.hid (HB1.out.trans (hb2.mono HB1.out.size))
      have hcell2 := (hb2.cell (p := ⟨w.heap.size, 0, none⟩) hw1).trans hcell
      have HR := Lib.hid hr
      clear hb2 hcell hr
      cases r
      · go_wp2
        go_ret
        exact ⟨false, rfl, ⟨fun h => (by cases h), fun h => absurd (HR.out.2 (HI.out.1 h).1) (by simp)⟩, HB2.out⟩
      · go_wp2_with fail
        refine (below_any AF A capF cap fs k w2 ((HF.out.below HB2.out (Nat.le_refl _)).more HB2.out.size) ((HL.out.below HB2.out (Nat.le_refl _)).more HB2.out.size) HG.out hk0 hl hfl).mono ?_
        rintro e w3 ⟨rfl, rfl⟩
        go_wp2
        go_ret
        exact ⟨_, rfl, by rw [HI.out]; simp only [decide_eq_true_eq]; exact ⟨fun h => ⟨HR.out.1 (by first | rfl | trivial), h⟩, fun h => h.2⟩, HB2.out⟩
    · have HN : Hid (¬ CircP l fs) := Lib.hid (fun h => by rw [circP_odd h] at ho; cases ho)
      clear ho
      go_wp2
      go_ret
      exact ⟨false, rfl, ⟨fun h => (by cases h), fun h => absurd h HN.out⟩, HB1.out⟩

def CircleP (l : List Int) (fs : List F) : Prop := l.length ≤ 65536 ∧ CircP l fs
def CertCirc (l : List Int) (fs : List F) (w : World) (e : Ending) (w' : World) : Prop := ∃ r, e = .returned (.bool r) ∧ (r = true ↔ CircleP l fs) ∧ Below w.heap.size w w'

set_option maxHeartbeats 2000000 in
theorem circle_cert (AF : Option Addr) (capF : Nat) (fs : List F) (A : Option Addr) (cap : Nat) (l : List Int) (w : World) (hfs : FactsAt w w.heap.size AF fs) (hfl : fs.length ≤ maxLen) (hls : NumsAt w w.heap.size A l) :
    Calls Try.prog 10 #[.slice A l.length cap, .slice AF fs.length capF] w (CertCirc l fs w) := by
  by_cases h : l.length ≤ 65536
  · have h' : (l.length : Int) ≤ 65536 := by omega
    go_enter Try.func10, Try.ntmps10
    go_wp2_with fail
    refine (isCircle_any AF capF fs A cap l w hfs hfl hls (by omega)).mono ?_
    rintro e w1 ⟨r, rfl, hr, hb⟩
    have HB := Lib.hid hb
    have HR := Lib.hid hr
    clear hb hr
    go_wp2
    go_ret
    exact ⟨r, rfl, ⟨fun hh => ⟨h, HR.out.1 hh⟩, fun hh => HR.out.2 hh.2⟩, HB.out⟩
  · have h' : ¬ (l.length : Int) ≤ 65536 := by omega
    clear hfs hls
    go_enter Try.func10, Try.ntmps10
    go_wp2
    go_ret
    exact ⟨false, rfl, ⟨fun hh => (by cases hh), fun hh => absurd hh.1 h⟩, Below.refl _ _⟩

end Go.Proofs.Ytooogmppfjgdpaa
