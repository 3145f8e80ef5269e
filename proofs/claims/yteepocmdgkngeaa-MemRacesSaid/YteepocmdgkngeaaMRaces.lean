/- Proved here: for every array of two bools and two numbers that lychgatelaw06.MemRaces is called with, in every memory, the call returns true and its arguments read as before. No conditions. -/
import Derived.Test.YteepocmdgkngeaaMClose
import Derived.Deep.DeepCutAuto
import Derived.Deep.RegionWith
namespace Go.Proofs.Yteepocmdgkngeaa
open Go.ChangeShapes Go.WideShapes Go.ChangeAt Go.RowKit

def rc0 : MS := [⟨true, [c0, c0, c0, c0, c0]⟩]
def rcW (a c : Nat) (x y : Bool) : Int := if a = c ∧ (x || y) = true then 6 else 0
theorem rca : allocS [] 5 = rc0 ∧ allocV [] 5 = p1 ∧ allocOK [] 5 = true := ⟨rfl, rfl, rfl⟩
theorem rdr0 : Rd rc0 0 := by intro b hb c hc; simp [rc0] at hb; subst hb; simp at hc; subst hc; decide
abbrev rp (a : Nat) : MV := ⟨2, (a : Int), 1⟩
def rc1 (a : Nat) (x : Bool) : MS := beginS rc0 (rp a) x
def rc2 (a c : Nat) (x y : Bool) : MS := beginS (rc1 a x) (rp c) y
theorem races_all : ∀ a c : Fin 5, ∀ x y : Bool, beginW rc0 (rp a.val) x = 0 ∧ beginW (rc1 a.val x) (rp c.val) y = rcW a.val c.val x y ∧ freeW (rc2 a.val c.val x y) p1 = 6 ∧ lockW (rc2 a.val c.val x y) (rp a.val) = 6 := of_decide_eq_true (by kernel_rfl)
theorem races_at {a c : Nat} (ha : a < 5) (hc : c < 5) (x y : Bool) : beginW rc0 (rp a) x = 0 ∧ beginW (rc1 a x) (rp c) y = rcW a c x y ∧ freeW (rc2 a c x y) p1 = 6 ∧ lockW (rc2 a c x y) (rp a) = 6 := races_all ⟨a, ha⟩ ⟨c, hc⟩ x y

def RacesCut (w : World) (b gp gq : Nat) (W : World) : Prop := ∃ a c : Nat, a < 5 ∧ c < 5 ∧ Sep w W [memT b rc0, boxT gp (vCells (rp a)) 34, boxT gq (vCells (rp c)) 34]
theorem races_cut {w W : World} {b : Nat} (h : Sep w W [memT b rc0]) {A C : Int} (a0 : 0 ≤ A) (a5 : A < 5) (c0 : 0 ≤ C) (c5 : C < 5) :
    RacesCut w b W.heap.size (W.heap.size + 1) ((W.alloc (.cells #[.int .i64 2, .int .i64 A, .int .i64 1] 34)).alloc (.cells #[.int .i64 2, .int .i64 C, .int .i64 1] 34)) := by
  obtain ⟨a, rfl⟩ := Int.eq_ofNat_of_zero_le a0
  obtain ⟨c, rfl⟩ := Int.eq_ofNat_of_zero_le c0
  have h1 : Sep w (W.alloc (.cells #[.int .i64 2, .int .i64 (a : Int), .int .i64 1] 34)) _ := h.boxV (rp a) rfl
  have h2 : Sep w ((W.alloc (.cells #[.int .i64 2, .int .i64 (a : Int), .int .i64 1] 34)).alloc (.cells #[.int .i64 2, .int .i64 (c : Int), .int .i64 1] 34)) _ := h1.boxV (rp c) rfl
  rw [World.size_alloc] at h2
  exact ⟨a, c, by omega, by omega, h2⟩
theorem rcW_same {a c : Nat} {x y : Bool} (h : a = c) (hx : (x || y) = true) : rcW a c x y = 6 := by unfold rcW; rw [if_pos ⟨h, hx⟩]
theorem rcW_not {a c : Nat} {x y : Bool} (h : a = c → (x || y) = false) : rcW a c x y = 0 := by
  unfold rcW
  rw [if_neg]
  rintro ⟨h1, h2⟩
  rw [h h1] at h2
  cases h2
theorem rdr1 (a : Nat) (x : Bool) : Rd (rc1 a x) 1 := rdr0.begin _ _

set_option maxRecDepth 100000 in
set_option maxHeartbeats 8000000 in
theorem memRaces_walk (x y : Bool) (n1 n2 : Int) (w : World) (l1 : -9223372036854775808 ≤ n1) (u1 : n1 ≤ 9223372036854775807) (l2 : -9223372036854775808 ≤ n2) (u2 : n2 ≤ 9223372036854775807) :
    Calls Try.prog 7 #[.agg #[.bool x, .bool y], .int .i64 n1, .int .i64 n2] w fun e w' => e = .returned (.bool true) ∧ Below w.heap.size w w' := by
  go_enter Try.func7, Try.ntmps7
  go_wp2
  go_quiet (fail)
  have S00 := Lib.hid ((Sep.start w).quiet (below_drewN ((Below.refl w.heap.size w).alloc (Nat.le_refl _) (.cells #[.bool x, .bool y] 60)) nq))
  go_wp2_with fail
  ((with_reducible refine (wakes_any _).mono ?_); rintro e w0 ⟨rfl, hb0⟩)
  have S0 := Lib.hid (S00.out.quiet hb0)
  clear hb0 S00
  go_wp2_with fail
  ((with_reducible refine (S0.out.newMem rfl).mono ?_); rintro e w1 ⟨rfl, hs⟩)
  generalize w0.heap.size = b at *
  have H := Lib.hid hs
  clear hs S0
  go_wp2_with fail
  ((with_reducible refine (H.out.alloc 0 rfl 5 rca rfl).mono ?_); rintro e w2 ⟨rfl, hs⟩)
  have hq0 : Sep w (w2.alloc (.cells #[.int .i64 2, .int .i64 0, .int .i64 1] 34)) [memT b rc0, boxT w2.heap.size (vCells p1) 34] := hs.boxV p1 rfl
  have hq : Sep w ((w2.alloc (.cells #[.int .i64 2, .int .i64 0, .int .i64 1] 34)).alloc (.cells #[.int .i64 2, .int .i64 0, .int .i64 1] 34)) [memT b rc0, boxT w2.heap.size (vCells p1) 34, boxT (w2.heap.size + 1) (vCells p1) 34] := by
    have h := hq0.boxV p1 rfl
    rw [World.size_alloc] at h
    exact h
  obtain ⟨x0, x1, x2, x3⟩ := hq.boxAt 1 rfl
  obtain ⟨y0, y1, y2, y3⟩ := hq.boxAt 2 rfl
  have H2 := Lib.hid hq
  have HS2 := Lib.hid hs
  clear hs hq hq0
  go_upto_region 7 with fail
  go_cut [] (fun W => RacesCut w b w2.heap.size (w2.heap.size + 1) W)
  case first =>
    have z0 := (H2.out.blk 1 rfl).frozen 1
    have z1 := (H2.out.blk 2 rfl).frozen 1
    go_wp2_with fail
    all_goals
      go_meet
      exact races_cut HS2.out (by omega) (by omega) (by omega) (by omega)
  case rest =>
    obtain ⟨a, c, ha, hc, hs⟩ := hcut
    clear H2 HS2 x0 x1 x2 x3 y0 y1 y2 y3
    generalize w2.heap.size = gp at *
    obtain ⟨x0, x1, x2, x3⟩ := hs.boxAt 1 rfl
    obtain ⟨y0, y1, y2, y3⟩ := hs.boxAt 2 rfl
    obtain ⟨r1, r2, r3, r4⟩ := races_at ha hc x y
    have R2 := Lib.hid r2
    have R3 := Lib.hid r3
    have R4 := Lib.hid r4
    have H3 := Lib.hid hs
    clear hs r2 r3 r4
    go_wp2_with fail
    ((with_reducible refine (H3.out.begin 0 rfl (rp a) x rdr0 (by decide) ⟨rfl, r1⟩ rfl).mono ?_); rintro e w3 ⟨rfl, hs⟩)
    clear x0 x1 x2 x3 y0 y1 y2 y3 r1
    obtain ⟨x0, x1, x2, x3⟩ := hs.boxAt 1 rfl
    obtain ⟨y0, y1, y2, y3⟩ := hs.boxAt 2 rfl
    have H4 := Lib.hid hs
    clear hs
    have hW : rcW a c x y = if a = c ∧ (x || y) = true then 6 else 0 := rfl
    generalize hw : rcW a c x y = W at hW
    have HW := Lib.hid hw
    have HWW := Lib.hid hW
    clear hw hW
    by_cases hac : a = c
    · subst hac
      cases x
      · cases y
        · have hWv := Lib.hid (HWW.out.trans (if_neg (by simp)))
          go_wp2_with fail
          ((with_reducible refine (H4.out.begin 0 rfl (rp a) false (rdr1 a false) (by decide) ⟨rfl, R2.out.trans (HW.out.trans hWv.out)⟩ rfl).mono ?_); rintro e w4 ⟨rfl, hs⟩)
          clear x0 x1 x2 x3 y0 y1 y2 y3
          obtain ⟨x0, x1, x2, x3⟩ := hs.boxAt 1 rfl
          have H5 := Lib.hid hs
          clear hs
          go_wp2_with fail
          ((with_reducible refine (H5.out.free 0 rfl p1 ⟨freeS_no R3.out (by decide), R3.out⟩ rfl).mono ?_); rintro e w5 ⟨rfl, hs⟩)
          clear x0 x1 x2 x3
          obtain ⟨x0, x1, x2, x3⟩ := hs.boxAt 1 rfl
          have H6 := Lib.hid hs
          clear hs
          go_wp2_with fail
          ((with_reducible refine (H6.out.lock 0 rfl (rp a) ⟨lockS_no (lockR_no R4.out (by decide)), lockR_no R4.out (by decide), R4.out⟩ rfl).mono ?_); rintro e w6 ⟨rfl, hs⟩)
          clear x0 x1 x2 x3
          obtain ⟨x0, x1, x2, x3⟩ := hs.boxAt 1 rfl
          have H7 := Lib.hid hs
          clear hs
          go_wp2_with fail
          ((with_reducible refine (H7.out.unlock 0 rfl (rp a) ⟨unlockS_no (by rw [R4.out]; decide), R4.out⟩ rfl).mono ?_); rintro e w7 ⟨rfl, hs⟩)
          clear x0 x1 x2 x3
          have H8 := Lib.hid hs
          clear hs
          go_wp2
          go_ret
          exact ⟨rfl, H8.out.below⟩
        · have hWv := Lib.hid (HWW.out.trans (if_pos ⟨rfl, rfl⟩))
          go_wp2_with fail
          ((with_reducible refine (H4.out.begin 0 rfl (rp a) true (rdr1 a false) (by decide) ⟨rfl, R2.out.trans (HW.out.trans hWv.out)⟩ rfl).mono ?_); rintro e w4 ⟨rfl, hs⟩)
          clear x0 x1 x2 x3 y0 y1 y2 y3
          obtain ⟨x0, x1, x2, x3⟩ := hs.boxAt 1 rfl
          have H5 := Lib.hid hs
          clear hs
          go_wp2_with fail
          ((with_reducible refine (H5.out.free 0 rfl p1 ⟨freeS_no R3.out (by decide), R3.out⟩ rfl).mono ?_); rintro e w5 ⟨rfl, hs⟩)
          clear x0 x1 x2 x3
          obtain ⟨x0, x1, x2, x3⟩ := hs.boxAt 1 rfl
          have H6 := Lib.hid hs
          clear hs
          go_wp2_with fail
          ((with_reducible refine (H6.out.lock 0 rfl (rp a) ⟨lockS_no (lockR_no R4.out (by decide)), lockR_no R4.out (by decide), R4.out⟩ rfl).mono ?_); rintro e w6 ⟨rfl, hs⟩)
          clear x0 x1 x2 x3
          obtain ⟨x0, x1, x2, x3⟩ := hs.boxAt 1 rfl
          have H7 := Lib.hid hs
          clear hs
          go_wp2_with fail
          ((with_reducible refine (H7.out.unlock 0 rfl (rp a) ⟨unlockS_no (by rw [R4.out]; decide), R4.out⟩ rfl).mono ?_); rintro e w7 ⟨rfl, hs⟩)
          clear x0 x1 x2 x3
          have H8 := Lib.hid hs
          clear hs
          go_wp2
          go_ret
          exact ⟨rfl, H8.out.below⟩
      · have hWv := Lib.hid (HWW.out.trans (if_pos ⟨rfl, by cases y <;> rfl⟩))
        go_wp2_with fail
        ((with_reducible refine (H4.out.begin 0 rfl (rp a) y (rdr1 a true) (by decide) ⟨rfl, R2.out.trans (HW.out.trans hWv.out)⟩ rfl).mono ?_); rintro e w4 ⟨rfl, hs⟩)
        clear x0 x1 x2 x3 y0 y1 y2 y3
        obtain ⟨x0, x1, x2, x3⟩ := hs.boxAt 1 rfl
        have H5 := Lib.hid hs
        clear hs
        go_wp2_with fail
        ((with_reducible refine (H5.out.free 0 rfl p1 ⟨freeS_no R3.out (by decide), R3.out⟩ rfl).mono ?_); rintro e w5 ⟨rfl, hs⟩)
        clear x0 x1 x2 x3
        obtain ⟨x0, x1, x2, x3⟩ := hs.boxAt 1 rfl
        have H6 := Lib.hid hs
        clear hs
        go_wp2_with fail
        ((with_reducible refine (H6.out.lock 0 rfl (rp a) ⟨lockS_no (lockR_no R4.out (by decide)), lockR_no R4.out (by decide), R4.out⟩ rfl).mono ?_); rintro e w6 ⟨rfl, hs⟩)
        clear x0 x1 x2 x3
        obtain ⟨x0, x1, x2, x3⟩ := hs.boxAt 1 rfl
        have H7 := Lib.hid hs
        clear hs
        go_wp2_with fail
        ((with_reducible refine (H7.out.unlock 0 rfl (rp a) ⟨unlockS_no (by rw [R4.out]; decide), R4.out⟩ rfl).mono ?_); rintro e w7 ⟨rfl, hs⟩)
        clear x0 x1 x2 x3
        have H8 := Lib.hid hs
        clear hs
        go_wp2
        go_ret
        exact ⟨rfl, H8.out.below⟩
    · have hWv := Lib.hid (HWW.out.trans (if_neg (fun h => hac h.1)))
      have hne : ((a : Int) == (c : Int)) = false := by rw [beq_eq_false_iff_ne]; omega
      go_wp2_with fail
      ((with_reducible refine (H4.out.begin 0 rfl (rp c) y (rdr1 a x) (by decide) ⟨rfl, R2.out.trans (HW.out.trans hWv.out)⟩ rfl).mono ?_); rintro e w4 ⟨rfl, hs⟩)
      clear x0 x1 x2 x3 y0 y1 y2 y3
      obtain ⟨x0, x1, x2, x3⟩ := hs.boxAt 1 rfl
      have H5 := Lib.hid hs
      clear hs
      go_wp2_with fail
      ((with_reducible refine (H5.out.free 0 rfl p1 ⟨freeS_no R3.out (by decide), R3.out⟩ rfl).mono ?_); rintro e w5 ⟨rfl, hs⟩)
      clear x0 x1 x2 x3
      obtain ⟨x0, x1, x2, x3⟩ := hs.boxAt 1 rfl
      have H6 := Lib.hid hs
      clear hs
      go_wp2_with fail
      ((with_reducible refine (H6.out.lock 0 rfl (rp a) ⟨lockS_no (lockR_no R4.out (by decide)), lockR_no R4.out (by decide), R4.out⟩ rfl).mono ?_); rintro e w6 ⟨rfl, hs⟩)
      clear x0 x1 x2 x3
      obtain ⟨x0, x1, x2, x3⟩ := hs.boxAt 1 rfl
      have H7 := Lib.hid hs
      clear hs
      go_wp2_with fail
      ((with_reducible refine (H7.out.unlock 0 rfl (rp a) ⟨unlockS_no (by rw [R4.out]; decide), R4.out⟩ rfl).mono ?_); rintro e w7 ⟨rfl, hs⟩)
      clear x0 x1 x2 x3
      have H8 := Lib.hid hs
      clear hs
      go_wp2
      go_ret
      exact ⟨rfl, H8.out.below⟩

theorem memRaces_reads (os : Os) {H : Type} (enc : TypeId × Value → H) : ∃ places, DataW.whole enc Try.prog ((World.holding Try.prog os ⟨#[], #[], []⟩).forCall (fun _ _ => 0) ⟨#[], #[Value.agg #[.bool false, .bool false], Value.int .i64 0, Value.int .i64 0], []⟩).memory Try.f7.params.toList Rows.memRacesSpec.vars false #[Value.agg #[.bool false, .bool false], Value.int .i64 0, Value.int .i64 0].toList 8 = some ([.agg [.lit (.bool false), .lit (.bool false)], .lit (.int .i64 0), .lit (.int .i64 0)], [], places) :=
  ⟨[], by kernel_rfl⟩

set_option maxRecDepth 100000 in
theorem memRaces_lifted (os : Os) (started : os.Started) (H : Type) (enc : TypeId × Value → H) (F : Stop.Interp) :
    ReturnsInHanded {} Try.checked os 7 .any ((OpenSpec.ofChange Rows.memRacesSpec).preRow enc Try.prog Try.f7 Rows.memRacesRow.domain false Rows.memRacesRow.laid) (((OpenSpec.ofChange Rows.memRacesSpec).at F).post enc Try.prog Try.f7 false true false false) := by
  obtain ⟨places, hx⟩ := memRaces_reads os enc
  refine returnsInHanded_of_row (C := Try.checked) (s := OpenSpec.ofChange Rows.memRacesSpec) own started (by kernel_rfl) Try.func7
    (witness_row_at (enc := enc) (C := Try.checked) false (World.holding Try.prog os ⟨#[], #[], []⟩) #[Value.agg #[.bool false, .bool false], Value.int .i64 0, Value.int .i64 0] rfl (by kernel_rfl) (by kernel_rfl) (by kernel_rfl)
      (OpenSpec.preRow_of_cond 8 hx (by kernel_rfl) (fun k hk => by cases hk) (by kernel_rfl) (laidMet_of_run' 8 (by kernel_rfl) (by kernel_rfl)))) ?_
  intro W base args ds gs before hval hW _ _ hreach _ _ _
  exact two_contract Try.params7 (by kernel_rfl) rfl (fun _ _ _ => rfl) memRaces_walk W base args ds gs before hval hW hreach

theorem memRaces_said : Rows.MemRacesSaid :=
  OpenClaim.holds_of_cond 7 Try.f7 rfl rfl rfl rfl rfl rfl rfl ⟨rfl, rfl, rfl, rfl, rfl⟩ rfl rfl rfl rfl rfl (by kernel_rfl) Try.func7 (by kernel_rfl)
    (of_decide_eq_true (by kernel_rfl)) (by unfold Func.isWrapper; first | (rw [if_pos (by decide +kernel)]; kernel_rfl) | (rw [if_neg (by decide +kernel)]; exact ⟨rfl, rfl⟩))
    (fun os started H enc _ F => by rw [OpenClaim.pre_eq_preRow]; exact memRaces_lifted os started H enc F)

end Go.Proofs.Yteepocmdgkngeaa
