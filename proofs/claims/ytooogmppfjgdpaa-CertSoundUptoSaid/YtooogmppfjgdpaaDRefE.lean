/- The contract of lychgateref04.Entails. -/
import Derived.Test.YtooogmppfjgdpaaDTable
namespace Go.Proofs.Ytooogmppfjgdpaa
open Go.RowKit

def RefEntPost (fs : List F) (g : F) (w : World) (e : Ending) (w' : World) : Prop :=
  ∃ b, e = .returned (.bool b) ∧ (b = true ↔ Ent fs g) ∧ Below w.heap.size w w'

set_option maxHeartbeats 4000000 in
theorem refEnt_any (n : Nat) (g : F) (A : Option Addr) (cap : Nat) (fs : List F) (w : World) (hfs : FactsAt w w.heap.size A fs) (fit : FitS n fs) (hg : FitF n g) (hn40 : n ≤ 40) :
    Calls Try.prog 18 #[.int .i64 n, .agg #[.int .i64 g.x, .int .i64 g.y, .int .i64 g.c], .slice A fs.length cap] w (RefEntPost fs g w) := by
  have hn1 := fit.n1
  have HFIT := Lib.hid fit
  have HG := Lib.hid hg
  have HF := Lib.hid hfs
  clear fit hg hfs
  obtain ⟨N, HN, hN1⟩ : ∃ N : Nat, Hid (n * n = N) ∧ N ≤ 1600 := by
    refine ⟨n * n, Lib.hid rfl, ?_⟩
    have := Nat.mul_le_mul hn40 hn40
    omega
  go_enter Try.func18, Try.ntmps18
  go_wp2_with fail
  refine (table_any n A cap fs _ ((HF.out.below (B' := w.heap.size) ((Below.refl _ _).alloc (Nat.le_refl _) _) (Nat.le_refl _)).more (by simp)) HFIT.out hn40).mono ?_
  rw [show TablePost fs n = fun w e w' => TablePost fs n w e w' from rfl]
  rintro e w1 ⟨hb1, ⟨hbad, rfl⟩ | ⟨hfine, gt, rfl, hgt, hblk⟩⟩
  · have HB1 := Lib.hid (((Below.refl w.heap.size w).alloc (Nat.le_refl _) _).trans (hb1.mono (by simp)))
    have HE : Hid (Ent fs g) := Lib.hid fun v hv => absurd (fine_of_sol HFIT.out hv) hbad
    clear hb1 hbad
    go_wp2_with fail
    go_ret
    exact ⟨true, rfl, ⟨fun _ => HE.out, fun _ => rfl⟩, HB1.out⟩
  · have HB1 := Lib.hid (((Below.refl w.heap.size w).alloc (Nat.le_refl _) _).trans (hb1.mono (by simp)))
    have HGB := Lib.hid ((Blk.new w [.int .i64 g.x, .int .i64 g.y, .int .i64 g.c] 46).below hb1 (by simp))
    have HK1 := Lib.hid hblk
    have HEN := Lib.hid (table_ent HFIT.out (fine_inv HFIT.out hfine) HG.out)
    have g0 := HGB.out.cell 0
    have g1 := HGB.out.cell 1
    have g2 := HGB.out.cell 2
    simp only [List.getElem?_cons_zero, List.getElem?_cons_succ] at g0 g1 g2
    obtain ⟨x0, xn, y0, yn, _, _⟩ := HG.out
    obtain ⟨gx, gy, gc⟩ := g
    simp only at x0 xn y0 yn g0 g1 g2
    obtain ⟨x, rfl⟩ := Int.eq_ofNat_of_zero_le x0
    obtain ⟨y, rfl⟩ := Int.eq_ofNat_of_zero_le y0
    have hxn : x < n := by omega
    have hyn : y < n := by omega
    have hpl := pair_lt hxn hyn
    rw [HN.out] at hpl
    have c1 : w1.cell? ⟨gt, x * n + y, none⟩ = some (.int .i64 (fwT fs n n x y)) := by
      rw [HK1.out.cell, intsGet _ _ (by rw [tabL_len, HN.out]; exact hpl), tabL_get _ hxn hyn]
    have hen : fwT fs n n x y ≤ gc ↔ Ent fs ⟨x, y, gc⟩ := by simpa using HEN.out
    have HEN2 := Lib.hid hen
    have hxq : (x : Int) * (n : Int) = ((x * n : Nat) : Int) := by rw [Int.natCast_mul]
    rw [HN.out]
    generalize x * n = q at *
    generalize fwT fs n n x y = tv at *
    have v1 : IntKind.i64.wrap ((x : Int) * (n : Int)) = (q : Int) := by rw [hxq]; exact IntWalk.i64_in _ (by omega)
    have v2 : IntKind.i64.wrap ((q : Int) + (y : Int)) = (q : Int) + (y : Int) := IntWalk.i64_in _ (by omega)
    have v3 : (0 : Int) ≤ (q : Int) + (y : Int) := by omega
    have v4 : (q : Int) + (y : Int) < (N : Int) := by omega
    have v5 : ((q : Int) + (y : Int)).toNat = q + y := by omega
    clear hb1 hfine hgt hblk hen HEN HG
    go_wp2_with fail
    go_quiet (fail)
    clear v2 v5
    go_wp2_with fail
    go_ret
    exact ⟨decide (tv ≤ gc), rfl, by rw [decide_eq_true_eq]; exact HEN2.out, below_drewN HB1.out _⟩

end Go.Proofs.Ytooogmppfjgdpaa
