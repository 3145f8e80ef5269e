/- The contract of cert.Holds. -/
import Derived.Test.YtooogmppfjgdpaaCLeaf
import Derived.Deep.RegionHeld3
namespace Go.Proofs.Ytooogmppfjgdpaa
open Go.RowKit

/- The fact is not fulfilled by the numbers, or not within its bounds. -/
def holdOdd (zs : List Int) (f : F) : Bool := !fineB zs f.x || !fineB zs f.y || !inB 17592186044416 f.c || decide (f.c < zs.getD f.x.toNat 0 - zs.getD f.y.toNat 0)

theorem fineB_true {zs : List Int} {v : Int} (h : fineB zs v = true) : ∃ k : Nat, v = k ∧ k < zs.length ∧ -4503599627370496 ≤ zs.getD k 0 ∧ zs.getD k 0 ≤ 4503599627370496 := by
  unfold fineB inB at h
  simp only [Bool.and_eq_true, decide_eq_true_eq] at h
  obtain ⟨⟨h0, h1⟩, h2, h3⟩ := h
  obtain ⟨k, rfl⟩ := Int.eq_ofNat_of_zero_le h0
  rw [Int.toNat_natCast] at h2 h3
  exact ⟨k, rfl, by omega, h2, h3⟩

structure HoldEnv (w : World) (gf g : Nat) (A : Option Addr) (zs : List Int) (cap : Nat) : Prop where
  cf : w.cell? ⟨gf, 0, none⟩ = some (.func (.func 20) #[] #[.pointer (some ⟨g, 0, none⟩)])
  cg : w.cell? ⟨g, 0, none⟩ = some (.slice A zs.length cap)
  lf : gf < w.heap.size
  lg : g < w.heap.size
  ns : NumsAt w w.heap.size A zs
  nl : zs.length ≤ maxLen

theorem HoldEnv.below {w w' : World} {gf g : Nat} {A : Option Addr} {zs : List Int} {cap : Nat} (h : HoldEnv w gf g A zs cap) (hb : Below w.heap.size w w') : HoldEnv w' gf g A zs cap :=
  ⟨(hb.cell (p := ⟨gf, 0, none⟩) h.lf).trans h.cf, (hb.cell (p := ⟨g, 0, none⟩) h.lg).trans h.cg, Nat.lt_of_lt_of_le h.lf hb.size, Nat.lt_of_lt_of_le h.lg hb.size, (h.ns.below hb (Nat.le_refl _)).more hb.size, h.nl⟩

theorem fine_quiet (zs : List Int) (v : Int) (gf g cap : Nat) (A : Option Addr) (W : World) (n : Nat) (b : Bool) (hE : HoldEnv W gf g A zs cap) (h : fineB zs v = b) :
    Calls Try.prog 20 #[.int .i64 v, .pointer (some ⟨g, 0, none⟩)] (W.drewN n) fun e w'' => e = .returned (.bool b) ∧ ∃ m, w'' = W.drewN m :=
  (fine_any zs v g cap A (W.drewN n) hE.cg hE.ns hE.nl).mono fun _ _ ⟨he, hw⟩ => ⟨by rw [he, h], n, hw.symm⟩
theorem within_quiet (x m : Int) (W : World) (n : Nat) (b : Bool) (h0 : 0 ≤ m) (h1 : m ≤ 4611686018427387904) (h : inB m x = b) :
    Calls Try.prog 21 #[.int .i64 x, .int .i64 m] (W.drewN n) fun e w'' => e = .returned (.bool b) ∧ ∃ k, w'' = W.drewN k :=
  (within_any x m (W.drewN n) h0 h1).mono fun _ _ ⟨he, hw⟩ => ⟨by rw [he, h], n, hw.symm⟩

set_option maxHeartbeats 4000000 in
theorem holdOdd_any (zs : List Int) (f : F) (gf g cap : Nat) (A : Option Addr) (w : World) (hE : HoldEnv w gf g A zs cap) :
    Calls Try.prog 22 #[.agg #[.int .i64 f.x, .int .i64 f.y, .int .i64 f.c], .pointer (some ⟨gf, 0, none⟩), .pointer (some ⟨g, 0, none⟩)] w fun e w' => e = .returned (.bool (holdOdd zs f)) ∧ Below w.heap.size w w' := by
  obtain ⟨x, y, c⟩ := f
  have HE := Lib.hid (hE.below ((Below.refl w.heap.size w).alloc (Nat.le_refl _) (.cells #[.int .i64 x, .int .i64 y, .int .i64 c] 35)))
  have cf := HE.out.cf
  have cg := HE.out.cg
  have b0 := (Blk.new w [.int .i64 x, .int .i64 y, .int .i64 c] 35).cell 0
  have b1 := (Blk.new w [.int .i64 x, .int .i64 y, .int .i64 c] 35).cell 1
  have b2 := (Blk.new w [.int .i64 x, .int .i64 y, .int .i64 c] 35).cell 2
  simp only [List.getElem?_cons_zero, List.getElem?_cons_succ] at b0 b1 b2
  have HB := Lib.hid ((Below.refl w.heap.size w).alloc (Nat.le_refl _) (.cells #[.int .i64 x, .int .i64 y, .int .i64 c] 35))
  clear hE
  by_cases hx : fineB zs x = true
  · by_cases hy : fineB zs y = true
    · by_cases hc : inB 17592186044416 c = true
      · obtain ⟨k, rfl, hk, hk0, hk1⟩ := fineB_true hx
        obtain ⟨l, rfl, hl, hl0, hl1⟩ := fineB_true hy
        obtain ⟨b, off, hA, hb, hcl⟩ := HE.out.ns (by omega)
        have z0 := hcl k hk
        have z1 := hcl l hl
        have HR := Lib.hid (show holdOdd zs ⟨k, l, c⟩ = decide (c < zs.getD k 0 - zs.getD l 0) by unfold holdOdd; simp [hx, hy, hc])
        have hnl := HE.out.nl
        unfold maxLen at hnl
        generalize zs.getD k 0 = z at *
        generalize zs.getD l 0 = u at *
        have hwr : IntKind.i64.wrap (z - u) = z - u := IntWalk.i64_in _ (by omega)
        have hkz : (k : Int) < (zs.length : Int) := by omega
        have hlz : (l : Int) < (zs.length : Int) := by omega
        subst hA
        clear hcl
        go_enter Try.func22, Try.ntmps22
        go_wp2_with fail
        generalize hW : w.alloc (.cells #[.int .i64 k, .int .i64 l, .int .i64 c] 35) = W at *
        go_quiet (first | (exact fine_quiet zs _ gf g cap _ _ _ _ HE.out hx) | (exact fine_quiet zs _ gf g cap _ _ _ _ HE.out hy) | (exact within_quiet _ _ _ _ _ (by decide) (by decide) hc))
        go_wp2
        go_ret
        exact ⟨ret_bool HR.out.symm, below_drewN HB.out _⟩
      · have hc : inB 17592186044416 c = false := by simpa using hc
        have HR := Lib.hid (show holdOdd zs ⟨x, y, c⟩ = true by unfold holdOdd; simp [hc])
        go_enter Try.func22, Try.ntmps22
        go_wp2_with fail
        generalize hW : w.alloc (.cells #[.int .i64 x, .int .i64 y, .int .i64 c] 35) = W at *
        go_quiet (first | (exact fine_quiet zs _ gf g cap A _ _ _ HE.out hx) | (exact fine_quiet zs _ gf g cap A _ _ _ HE.out hy) | (exact within_quiet _ _ _ _ _ (by decide) (by decide) hc))
        go_wp2
        go_ret
        exact ⟨ret_bool HR.out.symm, below_drewN HB.out _⟩
    · have hy : fineB zs y = false := by simpa using hy
      have HR := Lib.hid (show holdOdd zs ⟨x, y, c⟩ = true by unfold holdOdd; simp [hy])
      go_enter Try.func22, Try.ntmps22
      go_wp2_with fail
      generalize hW : w.alloc (.cells #[.int .i64 x, .int .i64 y, .int .i64 c] 35) = W at *
      go_quiet (first | (exact fine_quiet zs _ gf g cap A _ _ _ HE.out hx) | (exact fine_quiet zs _ gf g cap A _ _ _ HE.out hy))
      go_wp2
      go_ret
      exact ⟨ret_bool HR.out.symm, below_drewN HB.out _⟩
  · have hx : fineB zs x = false := by simpa using hx
    have HR := Lib.hid (show holdOdd zs ⟨x, y, c⟩ = true by unfold holdOdd; simp [hx])
    go_enter Try.func22, Try.ntmps22
    go_wp2_with fail
    generalize hW : w.alloc (.cells #[.int .i64 x, .int .i64 y, .int .i64 c] 35) = W at *
    go_quiet (first | (exact fine_quiet zs _ gf g cap A _ _ _ HE.out hx))
    go_wp2
    go_ret
    exact ⟨ret_bool HR.out.symm, below_drewN HB.out _⟩


theorem idx_hold_yes (p : F → Bool) {fs : List F} {k : Nat} {f : F} (hf : fs[k]? = some f) (ho : p f = true) : decide (0 ≤ (k : Int)) = fs.any p := by
  have h : fs.any p = true := List.any_eq_true.2 ⟨f, List.mem_of_getElem? hf, ho⟩
  rw [h]
  simp
theorem idx_hold_no (p : F → Bool) {fs : List F} {k : Nat} (hk : fs.length ≤ k) (ho : (fs.take k).any p = false) : decide (0 ≤ (-1 : Int)) = fs.any p := by
  rw [List.take_of_length_le hk] at ho
  rw [ho]
  rfl
def IdxPost_hold (p : F → Bool) (fs : List F) (w : World) (e : Ending) (w' : World) : Prop := ∃ i : Int, e = .returned (.int .i64 i) ∧ (decide (0 ≤ i) = fs.any p) ∧ Below w.heap.size w w'

set_option maxHeartbeats 1000000 in
theorem idx_hold (zs : List Int) (gf g cap : Nat) (A : Option Addr) (AF : Option Addr) (capF : Nat) (fs : List F) (w : World) (hE : HoldEnv w gf g A zs cap) (hfs : FactsAt w w.heap.size AF fs) (hl : fs.length ≤ maxLen) :
    Calls Try.prog 35 #[.slice AF fs.length capF, .func (.func 22) #[] #[.pointer (some ⟨gf, 0, none⟩), .pointer (some ⟨g, 0, none⟩)]] w (IdxPost_hold (holdOdd zs) fs w) := by
  unfold maxLen at hl
  have HF := Lib.hid hfs
  have HE := Lib.hid hE
  clear hfs hE
  obtain ⟨p, HP⟩ : ∃ p, Hid ((holdOdd zs) = p) := ⟨_, Lib.hid rfl⟩
  rw [HP.out]
  go_enter Try.func35, Try.ntmps35
  go_wp2
  go_loopw [8] (fun i wr => ∃ k : Nat, k ≤ fs.length ∧ i = .int .i64 k ∧ Below w.heap.size w wr ∧ (fs.take k).any p = false) (fun i _ => fs.length - (intOf i).toNat)
  case atStart => exact ⟨0, by omega, rfl, Below.refl _ _, by simp⟩
  case round =>
    obtain ⟨k, hk, rfl, hb, hno⟩ := hrel
    have HB := Lib.hid hb
    have HN := Lib.hid hno
    clear hb hno
    by_cases hlt2 : k < fs.length
    · obtain ⟨b, off, rfl, hbl, hc⟩ := HF.out (by omega)
      obtain ⟨f, hf⟩ : ∃ f, fs[k]? = some f := ⟨_, List.getElem?_eq_getElem hlt2⟩
      obtain ⟨c0, c1, c2⟩ := hc k f hf
      have d0 := (HB.out.cell (p := ⟨b, off + k * 3, none⟩) hbl).trans c0
      have d1 := (HB.out.cell (p := ⟨b, off + k * 3 + 1, none⟩) hbl).trans c1
      have d2 := (HB.out.cell (p := ⟨b, off + k * 3 + 2, none⟩) hbl).trans c2
      clear hc c0 c1 c2
      have HFF := Lib.hid hf
      clear hf
      go_wp2_with fail
      refine (holdOdd_any zs f gf g cap A _ (HE.out.below HB.out)).mono ?_
      rw [show (holdOdd zs) f = p f by rw [HP.out]]
      rintro e w1 ⟨rfl, hb1⟩
      have HB1 := Lib.hid (HB.out.trans (hb1.mono HB.out.size))
      clear hb1
      cases ho : p f
      · go_wp2
        go_roundw
        case rel => exact ⟨k + 1, by omega, by go_num, HB1.out, by rw [List.take_add_one, List.any_append, HN.out, HFF.out]; simp [ho]⟩
        case measure => simp [intOf]; omega
      · go_wp2
        go_ret
        exact ⟨k, rfl, idx_hold_yes p HFF.out ho, HB1.out⟩
    · go_wp2
      go_ret
      exact ⟨-1, rfl, idx_hold_no p (by omega) HN.out, HB.out⟩

set_option maxHeartbeats 1000000 in
theorem has_hold (zs : List Int) (gf g cap : Nat) (A : Option Addr) (AF : Option Addr) (capF : Nat) (fs : List F) (w : World) (hE : HoldEnv w gf g A zs cap) (hfs : FactsAt w w.heap.size AF fs) (hl : fs.length ≤ maxLen) :
    Calls Try.prog 23 #[.slice AF fs.length capF, .func (.func 22) #[] #[.pointer (some ⟨gf, 0, none⟩), .pointer (some ⟨g, 0, none⟩)]] w fun e w' => e = .returned (.bool (fs.any (holdOdd zs))) ∧ Below w.heap.size w w' := by
  go_enter Try.func23, Try.ntmps23
  go_wp2_with fail
  refine (idx_hold zs gf g cap A AF capF fs w hE hfs hl).mono ?_
  rintro e w1 ⟨i, rfl, hi, hb⟩
  have HI := Lib.hid hi
  have HB := Lib.hid hb
  clear hi hb
  go_wp2
  go_ret
  exact ⟨ret_bool HI.out, HB.out⟩

end Go.Proofs.Ytooogmppfjgdpaa
