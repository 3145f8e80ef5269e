/- The contracts of lychgateref04.Plain and lychgateref04.Entails. -/
import Derived.Test.YtpoohappocehdaaDTable
namespace Go.Proofs.Ytpoohappocehdaa
open Go.RowKit

theorem set_over (n x : Nat) (f : Nat → Int) (a b : Int) : ((upto n x f).set x a).set x b = (upto n x f).set x b := List.set_set ..
theorem row_begin (n x : Nat) (f : Nat → Int) (hx : x < n) : (upto n x f).set x 0 = upto n x f := by
  apply List.ext_getElem?
  intro i
  rw [List.getElem?_set]
  by_cases e : x = i
  · subst e
    simp [upto, hx]
  · rw [if_neg e]
theorem row_at (n x : Nat) (f : Nat → Int) (v : Int) (hx : x < n) : ((upto n x f).set x v).getD x 0 = v := by
  rw [List.getD_eq_getElem?_getD, List.getElem?_set, if_pos rfl, if_pos (by rw [upto_len]; exact hx)]
  rfl

/- The first k numbers less a number. -/
def less (n k : Nat) (f : Nat → Int) (z : Int) : List Int := (List.range n).map fun i => if i < k then f i - z else f i
theorem less_len (n k : Nat) (f : Nat → Int) (z : Int) : (less n k f z).length = n := by simp [less]
theorem less_zero (n : Nat) (f : Nat → Int) (z : Int) : less n 0 f z = (List.range n).map f := by simp [less]
theorem less_get (n k : Nat) (f : Nat → Int) (z : Int) (h : k < n) : (less n k f z).getD k 0 = f k := by
  unfold less
  rw [List.getD_eq_getElem?_getD, List.getElem?_map, List.getElem?_range h]
  simp
theorem less_set (n k : Nat) (f : Nat → Int) (z : Int) (_h : k < n) : (less n k f z).set k (f k - z) = less n (k + 1) f z := by
  apply List.ext_getElem?
  intro i
  rw [List.getElem?_set]
  by_cases hi : i < n
  · by_cases e : k = i
    · subst e; simp [less, hi]
    · rw [if_neg e]
      simp only [less, List.getElem?_map, List.getElem?_range hi, Option.map_some]
      by_cases h2 : i < k
      · rw [if_pos h2, if_pos (by omega)]
      · rw [if_neg h2, if_neg (by omega)]
  · rw [if_neg (by omega)]
    simp [less, hi]

def RefPlainPost (fs : List F) (n : Nat) (w : World) (e : Ending) (w' : World) : Prop :=
  Below w.heap.size w w' ∧ ((¬ Fine fs n ∧ e = .returned (.tuple #[.slice none 0 0, .bool false])) ∨
    (Fine fs n ∧ ∃ g, e = .returned (.tuple #[.slice (some ⟨g, 0, none⟩) n n, .bool true]) ∧ w.heap.size ≤ g ∧ Blk w' g (ints (less n n (fun x => rowMin (fwT fs n n) x n) (rowMin (fwT fs n n) 0 n))) 2))

set_option maxHeartbeats 8000000 in
set_option maxRecDepth 100000 in
theorem refPlain_any (n : Nat) (A : Option Addr) (cap : Nat) (fs : List F) (w : World) (hfs : FactsAt w w.heap.size A fs) (fit : FitS n fs) (hn40 : n ≤ 40) :
    Calls Try.prog 14 #[.int .i64 n, .slice A fs.length cap] w (RefPlainPost fs n w) := by
  have hn1 := fit.n1
  have HFIT := Lib.hid fit
  clear fit
  obtain ⟨N, HN, hN1⟩ : ∃ N : Nat, Hid (n * n = N) ∧ N ≤ 1600 := by
    refine ⟨n * n, Lib.hid rfl, ?_⟩
    have := Nat.mul_le_mul hn40 hn40
    omega
  go_enter Try.func14, Try.ntmps14
  go_wp2_with fail
  refine (table_any n A cap fs w hfs HFIT.out hn40).mono ?_
  rw [show TablePost fs n w = fun e w' => TablePost fs n w e w' from rfl]
  rintro e w1 ⟨hb1, ⟨hbad, rfl⟩ | ⟨hfine, gt, rfl, hgt, hblk⟩⟩
  · have HB1 := Lib.hid hb1
    have HBAD := Lib.hid hbad
    clear hb1 hbad
    go_wp2_with fail
    go_ret2
    exact ⟨HB1.out, .inl ⟨HBAD.out, rfl⟩⟩
  · have HB1 := Lib.hid hb1
    have HFN := Lib.hid hfine
    have HK1 := Lib.hid hblk
    have hw1 : w.heap.size ≤ w1.heap.size := hb1.size
    have hgl := hblk.lt
    have HLO : Hid (∀ x, x < n → -1152939096792891392 ≤ rowMin (fwT fs n n) x n) := Lib.hid fun x hx => rowMin_low HFIT.out (fine_inv HFIT.out hfine) x hx
    rw [HN.out]
    generalize hT : fwT fs n n = T at *
    have HTT := Lib.hid hT
    clear hT
    clear hb1 hfine hblk
    have hm1 := run_make_ints Try.underlying23 Try.infoI64 n (by omega)
    go_wp2_with fail
    clear hm1
    go_loopw [9] (fun i wr => ∃ x : Nat, x ≤ n ∧ i = .int .i64 x ∧ Below w1.heap.size w1 wr ∧ Blk wr w1.heap.size (ints (upto n x fun x => rowMin T x n)) 2) (fun i _ => n - (intOf i).toNat)
    case atStart => exact ⟨0, by omega, rfl, (Below.refl _ _).alloc (Nat.le_refl _) _, by rw [upto_zero]; exact Blk.new w1 _ _⟩
    case round =>
      obtain ⟨x, hx, rfl, hb, hblk⟩ := hrel
      by_cases hxn : x < n
      · have hxq : (x : Int) * (n : Int) = ((x * n : Nat) : Int) := by rw [Int.natCast_mul]
        have HXQ : Hid (∀ y, y < n → x * n + y < N) := Lib.hid fun y hy => by rw [← HN.out]; exact pair_lt hxn hy
        obtain ⟨xq, HXQE⟩ : ∃ xq, Hid (x * n = xq) := ⟨_, Lib.hid rfl⟩
        rw [HXQE.out] at hxq HXQ
        have hxq0 := HXQ.out 0 (by omega)
        have hxn2 : (x : Int) < (n : Int) := by omega
        have HB2 := Lib.hid hb
        have HK2 : Hid (Blk wr w1.heap.size (ints ((upto n x fun x => rowMin T x n).set x (rowMin T x 0))) 2) := Lib.hid (by
          show Blk wr w1.heap.size (ints ((upto n x fun x => rowMin T x n).set x 0)) 2
          rw [row_begin n x _ hxn]
          exact hblk)
        have HUP := Lib.hid (upto_set n x (fun x => rowMin T x n) hxn)
        clear hb hblk
        rename World => w2
        go_wp2_with fail
        go_loopw [10] (fun i wr => ∃ y : Nat, y ≤ n ∧ i = .int .i64 y ∧ Below w1.heap.size w1 wr ∧ Blk wr w1.heap.size (ints ((upto n x fun x => rowMin T x n).set x (rowMin T x y))) 2) (fun i _ => n - (intOf i).toNat)
        case atStart => exact ⟨0, by omega, rfl, HB2.out, HK2.out⟩
        case round =>
          obtain ⟨y, hy, rfl, hb, hblk⟩ := hrel
          by_cases hyn : y < n
          · have hxqy := HXQ.out y hyn
            have c1 : wr.cell? ⟨gt, xq + y, none⟩ = some (.int .i64 (T x y)) := by
              rw [hb.cell (p := ⟨gt, xq + y, none⟩) hgl, ← HXQE.out, HK1.out.cell, intsGet _ _ (by rw [tabL_len, HN.out, HXQE.out]; exact hxqy), tabL_get _ hxn hyn]
            have c2 : wr.cell? ⟨w1.heap.size, x, none⟩ = some (.int .i64 (rowMin T x y)) := by
              rw [hblk.cell, intsGet _ _ (by rw [List.length_set, upto_len]; exact hxn), row_at n x _ _ hxn]
            have g2 : wr.frozen? ⟨w1.heap.size, x, none⟩ = false := hblk.frozen x
            have HSU : Hid (rowMin T x (y + 1) = if T x y < rowMin T x y then T x y else rowMin T x y) := Lib.hid rfl
            have HSET : Hid (∀ v, Blk (wr.setCell ⟨w1.heap.size, x, none⟩ (.int .i64 v)) w1.heap.size (ints ((upto n x fun x => rowMin T x n).set x v)) 2) := Lib.hid fun v => by
              have h3 := hblk.put x (.int .i64 v)
              rw [intsSet, set_over] at h3
              exact h3
            have HB3 := Lib.hid hb
            have HK3 := Lib.hid hblk
            clear hb hblk
            generalize T x y = a at *
            generalize rowMin T x y = b at *
            have hyn2 : (y : Int) < (n : Int) := by omega
            have v1 : IntKind.i64.wrap ((x : Int) * (n : Int)) = (xq : Int) := by rw [hxq]; exact IntWalk.i64_in _ (by omega)
            have v2 : IntKind.i64.wrap ((xq : Int) + (y : Int)) = (xq : Int) + (y : Int) := IntWalk.i64_in _ (by omega)
            have v3 : (0 : Int) ≤ (xq : Int) + (y : Int) := by omega
            have v4 : (xq : Int) + (y : Int) < (N : Int) := by omega
            have v5 : ((xq : Int) + (y : Int)).toNat = xq + y := by omega
            by_cases hlt : a < b
            · have d1 : decide (a < b) = true := by simpa using hlt
              have HE := Lib.hid (HSU.out.trans (if_pos hlt))
              go_wp2_with fail
              go_quiet (fail)
              clear v2 v5
              go_wp2_with fail
              go_roundw
              case rel => exact ⟨y + 1, by omega, by go_num, (below_drewN HB3.out _).setCell (p := ⟨w1.heap.size, x, none⟩) (Nat.le_refl _) _, by rw [HE.out]; exact HSET.out _⟩
              case measure => simp [intOf]; omega
            · have d1 : decide (a < b) = false := by simpa using hlt
              have HE := Lib.hid (HSU.out.trans (if_neg hlt))
              go_wp2_with fail
              go_quiet (fail)
              clear v2 v5
              go_wp2_with fail
              go_roundw
              case rel => exact ⟨y + 1, by omega, by go_num, below_drewN HB3.out _, by rw [HE.out]; exact HK3.out.drewN _⟩
              case measure => simp [intOf]; omega
          · have hye : y = n := by omega
            subst hye
            have HB3 := Lib.hid hb
            have HK3 := Lib.hid hblk
            clear hb hblk
            go_wp2_with fail
            go_roundw
            case rel => exact ⟨x + 1, by omega, by go_num, HB3.out, by rw [← HUP.out]; exact HK3.out⟩
            case measure => simp [intOf]; omega
      · have hxe : x = n := by omega
        subst hxe
        have HB2 := Lib.hid hb
        have HK2 : Hid (Blk wr w1.heap.size (ints (less x 0 (fun z => rowMin T z x) (rowMin T 0 x))) 2) := Lib.hid (by
          rw [less_zero, ← upto_full]
          exact hblk)
        have c0 : wr.cell? ⟨w1.heap.size, 0, none⟩ = some (.int .i64 (rowMin T 0 x)) := by
          rw [HK2.out.cell, intsGet _ _ (by rw [less_len]; omega), less_get x 0 _ _ (by omega)]
        have hz0 := HLO.out 0 (by omega)
        have hz1 := rowMin_zero T 0 x
        have hx0 : (0 : Int) < (x : Int) := by omega
        generalize hZ : rowMin T 0 x = Z at *
        have HZZ := Lib.hid hZ
        clear hb hblk hZ
        rename World => w2
        go_wp2_with fail
        clear c0
        go_loopw [12] (fun i wr => ∃ k : Nat, k ≤ x ∧ i = .int .i64 k ∧ Below w1.heap.size w1 wr ∧ Blk wr w1.heap.size (ints (less x k (fun z => rowMin T z x) Z)) 2) (fun i _ => x - (intOf i).toNat)
        case atStart => exact ⟨0, by omega, rfl, HB2.out, HK2.out⟩
        case round =>
          obtain ⟨k, hk, rfl, hb, hblk⟩ := hrel
          by_cases hkn : k < x
          · have c2 : wr.cell? ⟨w1.heap.size, k, none⟩ = some (.int .i64 (rowMin T k x)) := by
              rw [hblk.cell, intsGet _ _ (by rw [less_len]; omega), less_get x k _ _ hkn]
            have g2 : wr.frozen? ⟨w1.heap.size, k, none⟩ = false := hblk.frozen k
            have hl0 := HLO.out k hkn
            have hl1 := rowMin_zero T k x
            have HSET : Hid (Blk (wr.setCell ⟨w1.heap.size, k, none⟩ (.int .i64 (rowMin T k x - Z))) w1.heap.size (ints (less x (k + 1) (fun z => rowMin T z x) Z)) 2) := Lib.hid (by
              have h3 := hblk.put k (.int .i64 (rowMin T k x - Z))
              rw [intsSet, less_set x k _ _ hkn] at h3
              exact h3)
            have HB3 := Lib.hid hb
            have hkn2 : (k : Int) < (x : Int) := by omega
            clear hb hblk
            generalize rowMin T k x = a at *
            go_wp2_with fail
            go_roundw
            case rel => exact ⟨k + 1, by omega, by go_num, HB3.out.setCell (p := ⟨w1.heap.size, k, none⟩) (Nat.le_refl _) _, HSET.out⟩
            case measure => simp [intOf]; omega
          · have hke : k = x := by omega
            subst hke
            have HB3 := Lib.hid hb
            have HK3 := Lib.hid hblk
            clear hb hblk
            go_wp2_with fail
            go_ret2
            exact ⟨HB1.out.trans (HB3.out.mono hw1), .inr ⟨HFN.out, w1.heap.size, rfl, hw1, by rw [HTT.out, HZZ.out]; exact HK3.out⟩⟩

theorem refPlain_plain {fs : List F} {n : Nat} (fit : FitS n fs) (h : Fine fs n) {l : List Int} (hp : Plain n fs l) (i : Nat) (hi : i < n) : l.getD i 0 = (less n n (fun x => rowMin (fwT fs n n) x n) (rowMin (fwT fs n n) 0 n)).getD i 0 := by
  obtain ⟨_, _, v, hv, e⟩ := hp
  have hu := hv.unique (table_greatest fit (fine_inv fit h)) (fun _ => Iff.rfl)
  rw [e i hi, hu i hi, hu 0 (by omega)]
  unfold less
  rw [List.getD_eq_getElem?_getD, List.getElem?_map, List.getElem?_range hi]
  simp [hi]

def RefEntPost (fs : List F) (g : F) (w : World) (e : Ending) (w' : World) : Prop :=
  ∃ b, e = .returned (.bool b) ∧ (b = true ↔ Ent fs g) ∧ Below w.heap.size w w'

set_option maxHeartbeats 4000000 in
theorem refEnt_any (n : Nat) (g : F) (A : Option Addr) (cap : Nat) (fs : List F) (w : World) (hfs : FactsAt w w.heap.size A fs) (fit : FitS n fs) (hg : FitF n g) (hn40 : n ≤ 40) :
    Calls Try.prog 17 #[.int .i64 n, .agg #[.int .i64 g.x, .int .i64 g.y, .int .i64 g.c], .slice A fs.length cap] w (RefEntPost fs g w) := by
  have hn1 := fit.n1
  have HFIT := Lib.hid fit
  have HG := Lib.hid hg
  have HF := Lib.hid hfs
  clear fit hg hfs
  obtain ⟨N, HN, hN1⟩ : ∃ N : Nat, Hid (n * n = N) ∧ N ≤ 1600 := by
    refine ⟨n * n, Lib.hid rfl, ?_⟩
    have := Nat.mul_le_mul hn40 hn40
    omega
  go_enter Try.func17, Try.ntmps17
  go_wp2_with fail
  refine (table_any n A cap fs _ ((HF.out.below (B' := w.heap.size) ((Below.refl _ _).alloc (Nat.le_refl _) _) (Nat.le_refl _)).more (by simp)) HFIT.out hn40).mono ?_
  rw [show TablePost fs n = fun w e w' => TablePost fs n w e w' from rfl]
  rintro e w1 ⟨hb1, ⟨hbad, rfl⟩ | ⟨hfine, gt, rfl, hgt, hblk⟩⟩
  · have HB1 := Lib.hid (((Below.refl w.heap.size w).alloc (Nat.le_refl _) _).trans (hb1.mono (by simp)))
    have HE : Hid (Ent fs g) := Lib.hid fun v hv => absurd (fine_of_sol HFIT.out hv) hbad
    clear hb1 hbad
    go_wp2_with fail
    go_ret
    exact ⟨true, rfl, ⟨fun _ => HE.out, fun _ => rfl⟩, HB1.out⟩
  · have HB1 := Lib.hid (((Below.refl w.heap.size w).alloc (Nat.le_refl _) _).trans (hb1.mono (by simp)))
    have HGB := Lib.hid ((Blk.new w [.int .i64 g.x, .int .i64 g.y, .int .i64 g.c] 41).below hb1 (by simp))
    have HK1 := Lib.hid hblk
    have HEN := Lib.hid (table_ent HFIT.out (fine_inv HFIT.out hfine) HG.out)
    have g0 := HGB.out.cell 0
    have g1 := HGB.out.cell 1
    have g2 := HGB.out.cell 2
    simp only [List.getElem?_cons_zero, List.getElem?_cons_succ] at g0 g1 g2
    obtain ⟨x0, xn, y0, yn, _, _⟩ := HG.out
    obtain ⟨gx, gy, gc⟩ := g
    simp only at x0 xn y0 yn g0 g1 g2
    obtain ⟨x, rfl⟩ := Int.eq_ofNat_of_zero_le x0
    obtain ⟨y, rfl⟩ := Int.eq_ofNat_of_zero_le y0
    have hxn : x < n := by omega
    have hyn : y < n := by omega
    have hpl := pair_lt hxn hyn
    rw [HN.out] at hpl
    have c1 : w1.cell? ⟨gt, x * n + y, none⟩ = some (.int .i64 (fwT fs n n x y)) := by
      rw [HK1.out.cell, intsGet _ _ (by rw [tabL_len, HN.out]; exact hpl), tabL_get _ hxn hyn]
    have hen : fwT fs n n x y ≤ gc ↔ Ent fs ⟨x, y, gc⟩ := by simpa using HEN.out
    have HEN2 := Lib.hid hen
    have hxq : (x : Int) * (n : Int) = ((x * n : Nat) : Int) := by rw [Int.natCast_mul]
    rw [HN.out]
    generalize x * n = q at *
    generalize fwT fs n n x y = tv at *
    have v1 : IntKind.i64.wrap ((x : Int) * (n : Int)) = (q : Int) := by rw [hxq]; exact IntWalk.i64_in _ (by omega)
    have v2 : IntKind.i64.wrap ((q : Int) + (y : Int)) = (q : Int) + (y : Int) := IntWalk.i64_in _ (by omega)
    have v3 : (0 : Int) ≤ (q : Int) + (y : Int) := by omega
    have v4 : (q : Int) + (y : Int) < (N : Int) := by omega
    have v5 : ((q : Int) + (y : Int)).toNat = q + y := by omega
    clear hb1 hfine hgt hblk hen HEN HG
    go_wp2_with fail
    go_quiet (fail)
    clear v2 v5
    go_wp2_with fail
    go_ret
    exact ⟨decide (tv ≤ gc), rfl, by rw [decide_eq_true_eq]; exact HEN2.out, below_drewN HB1.out _⟩

end Go.Proofs.Ytpoohappocehdaa
