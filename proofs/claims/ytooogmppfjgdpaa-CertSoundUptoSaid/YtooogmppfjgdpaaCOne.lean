/- Proved here: for every circle and numbers, fact and list of facts, of bulk at most 1048576 together, that lychgatelaw05.CertOne is called with, in every memory, the call returns true and its arguments read as before. Condition: the bulk, as the given second form of the statement has it. -/
import Derived.Test.YtooogmppfjgdpaaCUpto
namespace Go.Proofs.Ytooogmppfjgdpaa
open Go.ChangeShapes Go.WideShapes Go.ChangeAt Go.RowKit

theorem holds_sol {zs : List Int} {us : List F} (h : holdsB zs us = true) : Sol us (fun i => zs.getD i 0) := fun f hf => by
  unfold holdsB at h
  have ho : holdOdd zs f = false := Bool.eq_false_iff.2 fun ht => by rw [List.any_eq_true.2 ⟨f, hf, ht⟩] at h; cases h
  unfold holdOdd at ho
  simp only [Bool.or_eq_false_iff, decide_eq_false_iff_not] at ho
  have h2 := ho.2
  show zs.getD f.x.toNat 0 - zs.getD f.y.toNat 0 ≤ f.c
  omega

theorem check_yes {p : Pf} {n : Int} {g : F} {fs : List F} (h : CheckP p n g fs) (hy : p.yes = true) : Ent fs g := by
  obtain ⟨_, ⟨_, _, k, _, hc, _⟩ | ⟨h, _⟩⟩ := h
  · intro v hv
    apply Classical.byContradiction
    intro h2
    exact hc.none v ((ent_sol v).2 ⟨hv, h2⟩)
  · rw [hy] at h; cases h
theorem check_no {p : Pf} {n : Int} {g : F} {fs : List F} (h : CheckP p n g fs) (hy : p.yes = false) : ¬ Ent fs g := by
  obtain ⟨_, ⟨h, _⟩ | ⟨_, _, _, hh⟩⟩ := h
  · rw [hy] at h; cases h
  · intro he
    have hs := (ent_sol _).1 (holds_sol hh)
    exact hs.2 (he _ hs.1)

set_option maxHeartbeats 4000000 in
theorem certOne_walk (p : Pf) (AC : Option Addr) (cC : Nat) (AN : Option Addr) (cN : Nat) (g : F) (A : Option Addr) (cap : Nat) (fs : List F) (w : World) (hp : PfAt w AC AN p) (hfs : FactsAt w w.heap.size A fs) (hcap : fs.length ≤ cap) (hcm : cap ≤ maxLen) (_ : cap * 24 ≤ 140737488351232) :
    Calls Try.prog 8 #[.agg #[.slice AC p.cyc.length cC, .slice AN p.nums.length cN], .agg #[.int .i64 g.x, .int .i64 g.y, .int .i64 g.c], .slice A fs.length cap] w fun e w' => e = .returned (.bool true) ∧ Below w.heap.size w w' := by
  have HF := Lib.hid hfs
  have HP := Lib.hid hp
  clear hfs hp
  have HB0 := Lib.hid (((Below.refl w.heap.size w).alloc (Nat.le_refl _) (.cells #[.slice AC p.cyc.length cC, .slice AN p.nums.length cN] 50)).alloc (by simp) (.cells #[.int .i64 g.x, .int .i64 g.y, .int .i64 g.c] 35))
  have b0 : Blk ((w.alloc (.cells [.slice AC p.cyc.length cC, .slice AN p.nums.length cN].toArray 50)).alloc (.cells #[.int .i64 g.x, .int .i64 g.y, .int .i64 g.c] 35)) w.heap.size [.slice AC p.cyc.length cC, .slice AN p.nums.length cN] 50 := (Blk.new w _ _).alloc _
  have b1 := Blk.new (w.alloc (.cells #[.slice AC p.cyc.length cC, .slice AN p.nums.length cN] 50)) [.int .i64 g.x, .int .i64 g.y, .int .i64 g.c] 35
  simp only [World.size_alloc] at b1
  have HK0 := Lib.hid b0
  have HK1 := Lib.hid b1
  clear b0 b1
  go_enter Try.func8, Try.ntmps8
  go_wp2_with fail
  have HP0 := HP.out.below HB0.out
  refine (check_any ⟨true, p.cyc, []⟩ AC cC none 0 p.nums.length g A cap fs _ ⟨HP0.cyc, NumsAt.nil _ _ _, HP0.cl, Nat.zero_le _⟩ ((HF.out.below HB0.out (Nat.le_refl _)).more HB0.out.size) (Nat.le_trans hcap hcm)).mono ?_
  rintro e w1 ⟨r1, rfl, hr1, hb1⟩
  have HB1 := Lib.hid (HB0.out.trans (hb1.mono HB0.out.size))
  have HK0' := Lib.hid (HK0.out.below hb1 (by simp; omega))
  have HK1' := Lib.hid (HK1.out.below hb1 (by simp))
  have HR1 := Lib.hid hr1
  have p0 := HK0'.out.cell 0
  have p1 := HK0'.out.cell 1
  have g0 := HK1'.out.cell 0
  have g1 := HK1'.out.cell 1
  have g2 := HK1'.out.cell 2
  simp only [List.getElem?_cons_zero, List.getElem?_cons_succ] at p0 p1 g0 g1 g2
  clear hb1 hr1 HP0
  go_wp2_with fail
  have HP1 := HP.out.below HB1.out
  refine (check_any ⟨false, [], p.nums⟩ none 0 AN cN p.nums.length g A cap fs _ ⟨NumsAt.nil _ _ _, HP1.nums, Nat.zero_le _, HP1.nl⟩ ((HF.out.below HB1.out (Nat.le_refl _)).more HB1.out.size) (Nat.le_trans hcap hcm)).mono ?_
  rintro e w2 ⟨r2, rfl, hr2, hb2⟩
  have HB2 := Lib.hid (HB1.out.trans (hb2.mono HB1.out.size))
  have HR2 := Lib.hid hr2
  clear hb2 hr2 HP1 p0 p1 g0 g1 g2
  have HNO : Hid ((r1 && r2) = false) := Lib.hid (by
    cases r1
    · rfl
    · cases r2
      · rfl
      · exact absurd (check_yes (HR1.out.1 rfl) rfl) (check_no (HR2.out.1 rfl) rfl))
  go_wp2_with fail
  refine (wakes_any _).mono ?_
  rintro e w3 ⟨rfl, hb3⟩
  have HB3 := Lib.hid (HB2.out.trans (hb3.mono HB2.out.size))
  have hno := HNO.out
  clear hb3 HR1 HR2
  cases r1
  · go_wp2
    go_ret
    exact ⟨by first | rfl | simp, HB3.out⟩
  · obtain rfl : r2 = false := by simpa using hno
    go_wp2
    go_ret
    exact ⟨by first | rfl | simp, HB3.out⟩

theorem certOne_reads (os : Os) {H : Type} (enc : TypeId × Value → H) : ∃ places, DataW.whole enc Try.prog ((World.holding Try.prog os ⟨#[], #[], []⟩).forCall (fun _ _ => 0) ⟨#[], #[Value.agg #[.slice none 0 0, .slice none 0 0], Value.agg #[.int .i64 0, .int .i64 0, .int .i64 0], Value.slice none 0 0], []⟩).memory Try.f8.params.toList Rows.certOneSpec.vars false #[Value.agg #[.slice none 0 0, .slice none 0 0], Value.agg #[.int .i64 0, .int .i64 0, .int .i64 0], Value.slice none 0 0].toList 8 = some ([.agg [.nil, .nil], .agg [.lit (.int .i64 0), .lit (.int .i64 0), .lit (.int .i64 0)], .nil], [], places) :=
  ⟨[], by kernel_rfl⟩

set_option maxRecDepth 100000 in
theorem certOne_lifted (os : Os) (started : os.Started) (H : Type) (enc : TypeId × Value → H) (F : Stop.Interp) :
    ReturnsInHanded {} Try.checked os 8 .any ((Rows.OpenSpec.upto Rows.certOneSpec).preRow enc Try.prog Try.f8 Rows.certOneUptoRow.domain false Rows.certOneUptoRow.laid) (((Rows.OpenSpec.upto Rows.certOneSpec).at F).post enc Try.prog Try.f8 false true false false) := by
  obtain ⟨places, hx⟩ := certOne_reads os enc
  refine returnsInHanded_of_row (C := Try.checked) (s := Rows.OpenSpec.upto Rows.certOneSpec) own started (by kernel_rfl) Try.func8
    (witness_row_at (enc := enc) (C := Try.checked) false (World.holding Try.prog os ⟨#[], #[], []⟩) #[Value.agg #[.slice none 0 0, .slice none 0 0], Value.agg #[.int .i64 0, .int .i64 0, .int .i64 0], Value.slice none 0 0] rfl (by kernel_rfl) (by kernel_rfl) (by kernel_rfl)
      (OpenSpec.preRow_of_cond 8 hx (by kernel_rfl) (fun k hk => by cases hk; kernel_rfl) (by kernel_rfl) (laidMet_of_run' 8 (by kernel_rfl) (by kernel_rfl)))) ?_
  intro W base args ds gs before hval hW _ hcond hreach _ _ _
  exact both_contract Try.params8 (by kernel_rfl) rfl (fun _ _ _ => rfl) certOne_walk W base args ds gs before hval hW hreach (hcond _ rfl)

theorem certOne_said : Rows.CertOneUptoSaid :=
  OpenClaim.holds_of_cond 8 Try.f8 rfl rfl rfl rfl rfl rfl rfl ⟨rfl, rfl, rfl, rfl, rfl⟩ rfl rfl rfl rfl rfl (by kernel_rfl) Try.func8 (by kernel_rfl)
    (of_decide_eq_true (by kernel_rfl)) (by unfold Func.isWrapper; first | (rw [if_pos (by decide +kernel)]; kernel_rfl) | (rw [if_neg (by decide +kernel)]; exact ⟨rfl, rfl⟩))
    (fun os started H enc _ F => by rw [OpenClaim.pre_eq_preRow]; exact certOne_lifted os started H enc F)

end Go.Proofs.Ytooogmppfjgdpaa
