/- The contract of lychgateref04.Table. -/
import Derived.Test.YtooogmppfjgdpaaDRef0
namespace Go.Proofs.Ytooogmppfjgdpaa
open Go.RowKit

/- A table in memory: all pairs in one row. -/
def tabL (t : Tab) (n : Nat) : List Int := (List.range (n * n)).map fun i => t (i / n) (i % n)
theorem tabL_len (t : Tab) (n : Nat) : (tabL t n).length = n * n := by simp [tabL]
theorem pair_lt {x y n : Nat} (hx : x < n) (hy : y < n) : x * n + y < n * n := by
  have : (x + 1) * n ≤ n * n := Nat.mul_le_mul_right n hx
  rw [Nat.succ_mul] at this
  omega
theorem pair_div {x y n : Nat} (hy : y < n) : (x * n + y) / n = x ∧ (x * n + y) % n = y := by
  have hn : 0 < n := by omega
  constructor
  · rw [Nat.mul_comm, Nat.mul_add_div hn, Nat.div_eq_of_lt hy]; rfl
  · rw [Nat.mul_comm, Nat.mul_add_mod, Nat.mod_eq_of_lt hy]
theorem tabL_get (t : Tab) {n x y : Nat} (hx : x < n) (hy : y < n) : (tabL t n).getD (x * n + y) 0 = t x y := by
  unfold tabL
  rw [List.getD_eq_getElem?_getD, List.getElem?_map, List.getElem?_range (pair_lt hx hy)]
  show t ((x * n + y) / n) ((x * n + y) % n) = _
  rw [(pair_div hy).1, (pair_div hy).2]
theorem tabL_set (t : Tab) {n x y : Nat} (hx : x < n) (hy : y < n) (c : Int) : (tabL t n).set (x * n + y) c = tabL (setT t x y c) n := by
  apply List.ext_getElem?
  intro i
  rw [List.getElem?_set]
  by_cases hi : i < n * n
  · have hn : 0 < n := by omega
    simp only [tabL, List.getElem?_map, List.getElem?_range hi, Option.map_some, List.length_map, List.length_range]
    by_cases e : x * n + y = i
    · subst e
      rw [if_pos rfl, if_pos (pair_lt hx hy), (pair_div hy).1, (pair_div hy).2, setT_same]
    · rw [if_neg e, setT_other]
      rintro ⟨h1, h2⟩
      apply e
      have := Nat.div_add_mod i n
      rw [h1, h2, Nat.mul_comm] at this
      exact this
  · have h1 : (tabL t n)[i]? = none := List.getElem?_eq_none (by rw [tabL_len]; omega)
    have h2 : (tabL (setT t x y c) n)[i]? = none := List.getElem?_eq_none (by rw [tabL_len]; omega)
    rw [h1, h2]
    have := pair_lt hx hy
    rw [if_neg (by omega)]

theorem emodCast (k n : Nat) : (k : Int) % ((n : Int) + 1) = ((k % (n + 1) : Nat) : Int) := rfl
def diagF (n i : Nat) : Int := if i % (n + 1) = 0 then 0 else FAR
theorem diag_mod {n i : Nat} (hi : i < n * n) : i % (n + 1) = 0 ↔ i / n = i % n := by
  have hn : 0 < n := by
    rcases Nat.eq_zero_or_pos n with h | h
    · subst h; omega
    · exact h
  have h1 := Nat.div_add_mod i n
  have h2 := Nat.mod_lt i hn
  have h3 : i / n < n := Nat.div_lt_of_lt_mul hi
  generalize i / n = x at *
  generalize i % n = y at *
  constructor
  · intro h
    have h4 := Nat.div_add_mod i (n + 1)
    rw [h, Nat.add_zero] at h4
    generalize i / (n + 1) = q at *
    have e : n * x + y = n * q + q := by rw [h1, ← h4, Nat.succ_mul]
    rcases Nat.lt_trichotomy x q with hlt | heq | hgt
    · have := Nat.mul_le_mul_left n (show x + 1 ≤ q by omega)
      rw [Nat.mul_succ] at this
      omega
    · subst heq; omega
    · have := Nat.mul_le_mul_left n (show q + 1 ≤ x by omega)
      rw [Nat.mul_succ] at this
      omega
  · intro h
    rw [← h1, h, show n * y + y = (n + 1) * y by rw [Nat.succ_mul], Nat.mul_mod_right]
theorem diag_full (fs : List F) (n : Nat) : upto (n * n) (n * n) (diagF n) = tabL (initT fs 0) n := by
  rw [upto_full]
  unfold tabL
  apply List.map_congr_left
  intro i hi
  have hi' : i < n * n := by simpa using hi
  unfold diagF
  simp only [initT]
  by_cases h : i % (n + 1) = 0
  · rw [if_pos h, if_pos ((diag_mod hi').1 h)]
  · rw [if_neg h, if_neg (fun e => h ((diag_mod hi').2 e))]

def TablePost (fs : List F) (n : Nat) (w : World) (e : Ending) (w' : World) : Prop :=
  Below w.heap.size w w' ∧ ((¬ Fine fs n ∧ e = .returned (.tuple #[.slice none 0 0, .bool false])) ∨
    (Fine fs n ∧ ∃ g, e = .returned (.tuple #[.slice (some ⟨g, 0, none⟩) (n * n) (n * n), .bool true]) ∧ w.heap.size ≤ g ∧ Blk w' g (ints (tabL (fwT fs n n) n)) 2))

set_option maxHeartbeats 16000000 in
set_option maxRecDepth 100000 in
theorem table_any (n : Nat) (A : Option Addr) (cap : Nat) (fs : List F) (w : World) (hfs : FactsAt w w.heap.size A fs) (fit : FitS n fs) (hn40 : n ≤ 40) :
    Calls Try.prog 30 #[.int .i64 n, .slice A fs.length cap] w (TablePost fs n w) := by
  have hn1 := fit.n1
  have hlen := fit.len
  have HF := Lib.hid hfs
  have HFIT := Lib.hid fit
  clear hfs fit
  obtain ⟨N, HN, hNN, hN1⟩ : ∃ N : Nat, Hid (n * n = N) ∧ (n : Int) * (n : Int) = (N : Int) ∧ N ≤ 1600 := by
    refine ⟨n * n, Lib.hid rfl, by rw [Int.natCast_mul], ?_⟩
    have := Nat.mul_le_mul hn40 hn40
    omega
  have hwr : IntKind.i64.wrap ((n : Int) * (n : Int)) = (N : Int) := by rw [hNN]; exact IntWalk.i64_in _ (by omega)
  have hm1 := run_make_ints Try.underlying30 Try.infoI64 N (by omega)
  go_enter Try.func30, Try.ntmps30
  go_wp2_with fail
  clear hm1
  go_loopw [7] (fun i wr => ∃ k : Nat, k ≤ N ∧ i = .int .i64 k ∧ Below w.heap.size w wr ∧ Blk wr w.heap.size (ints (upto N k (diagF n))) 2) (fun i _ => N - (intOf i).toNat)
  case atStart => exact ⟨0, by omega, rfl, (Below.refl _ _).alloc (Nat.le_refl _) _, by rw [upto_zero]; exact Blk.new w _ _⟩
  case round =>
    obtain ⟨k, hk, rfl, hb, hblk⟩ := hrel
    by_cases hlt : k < N
    · have g1 := hblk.frozen k
      obtain ⟨ov, g2⟩ : ∃ v, wr.cell? ⟨w.heap.size, k, none⟩ = some v := ⟨_, (hblk.cell k).trans (intsGet _ k (by rw [upto_len]; exact hlt))⟩
      have HB := Lib.hid hb
      have HK := Lib.hid hblk
      have hk2 : (k : Int) < (N : Int) := by omega
      have hz := hblk.lt
      clear hb hblk
      by_cases hmod : k % (n + 1) = 0
      · have t1 : ((k : Int) % ((n : Int) + 1) == 0) = true := by
          rw [emodCast, hmod]
          rfl
        have HD : Hid (diagF n k = 0) := Lib.hid (by unfold diagF; rw [if_pos hmod])
        clear hmod
        go_wp2
        go_roundw
        case rel =>
          refine ⟨k + 1, by omega, by go_num, (HB.out.setCell (p := ⟨w.heap.size, k, none⟩) (Nat.le_refl _) _).setCell (p := ⟨w.heap.size, k, none⟩) (Nat.le_refl _) _, ?_⟩
          have e2 := upto_set N k (diagF n) hlt
          rw [HD.out] at e2
          have h3 := (HK.out.put k (.int .i64 4611686018427387904)).put k (.int .i64 0)
          rw [List.set_set, intsSet, e2] at h3
          exact h3
        case measure => simp [intOf]; omega
      · have t1 : ((k : Int) % ((n : Int) + 1) == 0) = false := by
          rw [emodCast, beq_eq_false_iff_ne]
          omega
        have HD : Hid (diagF n k = 4611686018427387904) := Lib.hid (by unfold diagF; rw [if_neg hmod]; rfl)
        clear hmod
        go_wp2
        go_roundw
        case rel =>
          refine ⟨k + 1, by omega, by go_num, HB.out.setCell (p := ⟨w.heap.size, k, none⟩) (Nat.le_refl _) _, ?_⟩
          have e2 := upto_set N k (diagF n) hlt
          rw [HD.out] at e2
          have h3 := HK.out.put k (.int .i64 4611686018427387904)
          rw [intsSet, e2] at h3
          exact h3
        case measure => simp [intOf]; omega
    · have hke : k = N := by omega
      subst hke
      have hblk2 : Blk wr w.heap.size (ints (tabL (initT fs 0) n)) 2 := by
        rw [← diag_full fs n, HN.out]
        exact hblk
      have HB := Lib.hid hb
      have HK := Lib.hid hblk2
      clear hb hblk hblk2
      rename World => w1
      go_wp2_with fail
      go_loopw [8] (fun i wr => ∃ j : Nat, j ≤ fs.length ∧ i = .int .i64 j ∧ Below w.heap.size w wr ∧ Blk wr w.heap.size (ints (tabL (initT fs j) n)) 2) (fun i _ => fs.length - (intOf i).toNat)
      case atStart => exact ⟨0, by omega, rfl, HB.out, HK.out⟩
      case round =>
        obtain ⟨j, hj, rfl, hb, hblk⟩ := hrel
        by_cases hlt2 : j < fs.length
        · obtain ⟨b, off, hA, hbl, hcl⟩ := HF.out (by omega)
          obtain ⟨f, hf⟩ : ∃ f, fs[j]? = some f := ⟨_, List.getElem?_eq_getElem hlt2⟩
          have ft := HFIT.out.fit f (List.mem_of_getElem? hf)
          obtain ⟨f0, f1, f2⟩ := hcl j f hf
          replace f0 := (hb.cell (p := ⟨b, off + j * 3, none⟩) hbl).trans f0
          replace f1 := (hb.cell (p := ⟨b, off + j * 3 + 1, none⟩) hbl).trans f1
          replace f2 := (hb.cell (p := ⟨b, off + j * 3 + 2, none⟩) hbl).trans f2
          subst hA
          have HST : Hid (initT fs (j + 1) = if f.c < initT fs j f.x.toNat f.y.toNat then setT (initT fs j) f.x.toNat f.y.toNat f.c else initT fs j) := Lib.hid (by
            simp only [initT]
            rw [getD_of hf])
          obtain ⟨x0, xn, y0, yn, _, _⟩ := ft
          obtain ⟨fx, fy, c⟩ := f
          simp only at x0 xn y0 yn f0 f1 f2 HST
          obtain ⟨x, rfl⟩ := Int.eq_ofNat_of_zero_le x0
          obtain ⟨y, rfl⟩ := Int.eq_ofNat_of_zero_le y0
          simp only [Int.toNat_natCast] at HST
          have hxl : x < n := by omega
          have hyl : y < n := by omega
          have hpl := pair_lt hxl hyl
          rw [HN.out] at hpl
          have c3 : wr.cell? ⟨w.heap.size, x * n + y, none⟩ = some (.int .i64 (initT fs j x y)) := by
            rw [hblk.cell, intsGet _ _ (by rw [tabL_len, HN.out]; exact hpl), tabL_get _ hxl hyl]
          have g1 : wr.frozen? ⟨w.heap.size, x * n + y, none⟩ = false := hblk.frozen _
          have HSET : Hid (Blk (wr.setCell ⟨w.heap.size, x * n + y, none⟩ (.int .i64 c)) w.heap.size (ints (tabL (setT (initT fs j) x y c) n)) 2) := Lib.hid (by
            have h3 := hblk.put (x * n + y) (.int .i64 c)
            rw [intsSet, tabL_set _ hxl hyl] at h3
            exact h3)
          have hxn : (x : Int) * (n : Int) = ((x * n : Nat) : Int) := by rw [Int.natCast_mul]
          generalize x * n = q at *
          generalize initT fs j x y = tv at *
          have HB2 := Lib.hid hb
          have HK2 := Lib.hid hblk
          have hj2 : (j : Int) < (fs.length : Int) := by omega
          clear hb hblk hcl hf xn yn x0 y0
          have w1' : IntKind.i64.wrap ((x : Int) * (n : Int)) = (q : Int) := by rw [hxn]; exact IntWalk.i64_in _ (by omega)
          have w2' : IntKind.i64.wrap ((q : Int) + (y : Int)) = (q : Int) + (y : Int) := IntWalk.i64_in _ (by omega)
          have w3' : (0 : Int) ≤ (q : Int) + (y : Int) := by omega
          have w4' : (q : Int) + (y : Int) < (k : Int) := by omega
          have w5' : ((q : Int) + (y : Int)).toNat = q + y := by omega
          by_cases hcl2 : c < tv
          · have d1 : decide (c < tv) = true := by simpa using hcl2
            go_wp2_with fail
            go_quiet (fail)
            go_wp2_with fail
            go_quiet (fail)
            go_wp2_with fail
            go_roundw
            case rel => exact ⟨j + 1, by omega, by go_num, (below_drewN HB2.out _).setCell (p := ⟨w.heap.size, q + y, none⟩) (Nat.le_refl _) _, by rw [HST.out, if_pos hcl2]; exact HSET.out⟩
            case measure => simp [intOf]; omega
          · have d1 : decide (c < tv) = false := by simpa using hcl2
            go_wp2_with fail
            go_quiet (fail)
            go_wp2_with fail
            go_quiet (fail)
            go_wp2_with fail
            go_roundw
            case rel => exact ⟨j + 1, by omega, by go_num, below_drewN HB2.out _, by rw [HST.out, if_neg (by omega)]; exact HK2.out.drewN _⟩
            case measure => simp [intOf]; omega
        · have hje : j = fs.length := by omega
          subst hje
          have HB2 := Lib.hid hb
          have HK2 := Lib.hid hblk
          clear hb hblk
          rename World => w2
          go_wp2_with fail
          go_loopw [10] (fun i wr => ∃ m : Nat, m ≤ n ∧ i = .int .i64 m ∧ Below w.heap.size w wr ∧ Blk wr w.heap.size (ints (tabL (fwT fs n m) n)) 2 ∧ ∀ m' x, m' < m → x < n → ¬ stops fs n m' x) (fun i _ => n - (intOf i).toNat)
          case atStart => exact ⟨0, by omega, rfl, HB2.out, HK2.out, fun m' x h => by omega⟩
          case round =>
            obtain ⟨m, hm, rfl, hb, hblk, hns⟩ := hrel
            have HNS := Lib.hid hns
            clear hns
            by_cases hmn : m < n
            · have HINV := Lib.hid (fw_inv HFIT.out m (by omega) HNS.out)
              have HB3 := Lib.hid hb
              have HK3 := Lib.hid hblk
              have HNX : Hid (fwT fs n (m + 1) = rndS (fwT fs n m) m n n) := Lib.hid rfl
              clear hb hblk
              rename World => w3
              have hmn2 : (m : Int) < (n : Int) := by omega
              have hmq : (m : Int) * (n : Int) = ((m * n : Nat) : Int) := by rw [Int.natCast_mul]
              have HMQ : Hid (∀ y, y < n → m * n + y < k) := Lib.hid fun y hy => by rw [← HN.out]; exact pair_lt hmn hy
              obtain ⟨mq, HMQE⟩ : ∃ mq, Hid (m * n = mq) := ⟨_, Lib.hid rfl⟩
              rw [HMQE.out] at hmq HMQ
              have hmq0 := HMQ.out 0 (by omega)
              go_wp2_with fail
              go_loopw [11] (fun i wr => ∃ x : Nat, x ≤ n ∧ i = .int .i64 x ∧ Below w.heap.size w wr ∧ Blk wr w.heap.size (ints (tabL (rndS (fwT fs n m) m n x) n)) 2 ∧ ∀ x', x' < x → ¬ stops fs n m x') (fun i _ => n - (intOf i).toNat)
              case atStart => exact ⟨0, by omega, rfl, HB3.out, HK3.out, fun x' h => by omega⟩
              case round =>
                obtain ⟨x, hx, rfl, hb, hblk, hns⟩ := hrel
                have HNX2 := Lib.hid hns
                clear hns
                by_cases hxn : x < n
                · have hxq : (x : Int) * (n : Int) = ((x * n : Nat) : Int) := by rw [Int.natCast_mul]
                  have HXQ : Hid (∀ y, y < n → x * n + y < k) := Lib.hid fun y hy => by rw [← HN.out]; exact pair_lt hxn hy
                  obtain ⟨xq, HXQE⟩ : ∃ xq, Hid (x * n = xq) := ⟨_, Lib.hid rfl⟩
                  rw [HXQE.out] at hxq HXQ
                  have hxqm := HXQ.out m hmn
                  have c1 : wr.cell? ⟨w.heap.size, xq + m, none⟩ = some (.int .i64 (rndS (fwT fs n m) m n x x m)) := by
                    rw [← HXQE.out, hblk.cell, intsGet _ _ (by rw [tabL_len, HN.out, HXQE.out]; exact hxqm), tabL_get _ hxn hmn]
                  have HRS : Hid (rndS (fwT fs n m) m n (x + 1) = rowAll (rndS (fwT fs n m) m n x) m x n) := Lib.hid rfl
                  have HB4 := Lib.hid hb
                  have HK4 := Lib.hid hblk
                  have hxn2 : (x : Int) < (n : Int) := by omega
                  have hxq2 : (xq : Int) + (m : Int) < (k : Int) := by omega
                  clear hb hblk
                  by_cases hfar : rndS (fwT fs n m) m n x x m = FAR
                  · rw [hfar] at c1
                    have t1 : ((4611686018427387904 : Int) == 4611686018427387904) = true := rfl
                    change wr.cell? ⟨w.heap.size, xq + m, none⟩ = some (.int .i64 4611686018427387904) at c1
                    go_wp2_with fail
                    go_roundw
                    case rel => exact ⟨x + 1, by omega, by go_num, HB4.out, by rw [HRS.out]; unfold rowAll; rw [if_pos hfar]; exact HK4.out, fun x' hx' => by
                      rcases Nat.lt_succ_iff_lt_or_eq.1 hx' with h | rfl
                      · exact HNX2.out x' h
                      · exact fun hs => hs.1 hfar⟩
                    case measure => simp [intOf]; omega
                  · have t1 : (rndS (fwT fs n m) m n x x m == 4611686018427387904) = false := by
                      rw [beq_eq_false_iff_ne]
                      exact hfar
                    have HFAR := Lib.hid hfar
                    have HRA : Hid (rowAll (rndS (fwT fs n m) m n x) m x n = rowS (rndS (fwT fs n m) m n x) m x n) := Lib.hid (by unfold rowAll; rw [if_neg hfar])
                    have HRD : Hid (∀ y, y < n → _) := Lib.hid fun y hy => reads (k := y) HFIT.out hmn hxn hy HINV.out HNX2.out hfar
                    have HSUC : Hid (∀ y, rowS (rndS (fwT fs n m) m n x) m x (y + 1) = cellS (rowS (rndS (fwT fs n m) m n x) m x y) m x y) := Lib.hid fun _ => rfl
                    have HST : Hid ((rndS (fwT fs n m) m n (x + 1)) x x < 0 ↔ stops fs n m x) := Lib.hid ⟨fun h => ⟨hfar, h⟩, fun h => h.2⟩
                    have HR0 : Hid (rowS (rndS (fwT fs n m) m n x) m x 0 = rndS (fwT fs n m) m n x) := Lib.hid rfl
                    have HBD : Hid (∀ y, y < n → fwT fs n m m y ≠ FAR → -1152939096792891392 ≤ fwT fs n m m y ∧ fwT fs n m m y ≤ 853221023154176) := Lib.hid fun y hy hf => HINV.out.bounds HFIT.out (by omega) hmn hy hf
                    clear hfar
                    generalize rndS (fwT fs n m) m n x = T at *
                    rename World => w4
                    go_wp2_with fail
                    go_loopw [12] (fun i wr => ∃ y : Nat, y ≤ n ∧ i = .int .i64 y ∧ Below w.heap.size w wr ∧ Blk wr w.heap.size (ints (tabL (rowS T m x y) n)) 2) (fun i _ => n - (intOf i).toNat)
                    case atStart => exact ⟨0, by omega, rfl, HB4.out, HK4.out⟩
                    case round =>
                      obtain ⟨y, hy, rfl, hb, hblk⟩ := hrel
                      by_cases hyn : y < n
                      · have hmqy := HMQ.out y hyn
                        have hxqy := HXQ.out y hyn
                        obtain ⟨r1, r2, r3, r4⟩ := HRD.out y hyn
                        have hbd := HBD.out y hyn
                        have HSU := Lib.hid (HSUC.out y)
                        generalize hS : rowS T m x y = S at *
                        have c2 : wr.cell? ⟨w.heap.size, mq + y, none⟩ = some (.int .i64 (S m y)) := by
                          rw [← HMQE.out, hblk.cell, intsGet _ _ (by rw [tabL_len, HN.out, HMQE.out]; exact hmqy), tabL_get _ hmn hyn]
                        have c3 : wr.cell? ⟨w.heap.size, xq + m, none⟩ = some (.int .i64 (S x m)) := by
                          rw [← HXQE.out, hblk.cell, intsGet _ _ (by rw [tabL_len, HN.out, HXQE.out]; exact hxqm), tabL_get _ hxn hmn]
                        have c4 : wr.cell? ⟨w.heap.size, xq + y, none⟩ = some (.int .i64 (S x y)) := by
                          rw [← HXQE.out, hblk.cell, intsGet _ _ (by rw [tabL_len, HN.out, HXQE.out]; exact hxqy), tabL_get _ hxn hyn]
                        have g4 : wr.frozen? ⟨w.heap.size, xq + y, none⟩ = false := hblk.frozen _
                        have HSET : Hid (∀ v, Blk (wr.setCell ⟨w.heap.size, xq + y, none⟩ (.int .i64 v)) w.heap.size (ints (tabL (setT S x y v) n)) 2) := Lib.hid fun v => by
                          have h3 := hblk.put (xq + y) (.int .i64 v)
                          rw [intsSet, ← HXQE.out, tabL_set _ hxn hyn, HXQE.out] at h3
                          exact h3
                        rw [← r1] at hbd
                        have HCE : Hid (cellS S m x y = if S m y = FAR then S else if S x m + S m y < S x y then setT S x y (S x m + S m y) else S) := Lib.hid rfl
                        have HB5 := Lib.hid hb
                        have HK5 := Lib.hid hblk
                        clear hb hblk hS c1 t1 r1
                        have hyn2 : (y : Int) < (n : Int) := by omega
                        have u1 : (mq : Int) + (y : Int) < (k : Int) := by omega
                        have u2 : (xq : Int) + (y : Int) < (k : Int) := by omega
                        by_cases hfar : S m y = FAR
                        · rw [hfar] at c2
                          change wr.cell? ⟨w.heap.size, mq + y, none⟩ = some (.int .i64 4611686018427387904) at c2
                          have t2 : ((4611686018427387904 : Int) == 4611686018427387904) = true := rfl
                          have HE := Lib.hid (HSU.out.trans (HCE.out.trans (if_pos hfar)))
                          clear hbd hfar c3 c4
                          go_wp2_with fail
                          go_roundw
                          case rel => exact ⟨y + 1, by omega, by go_num, HB5.out, by rw [HE.out]; exact HK5.out⟩
                          case measure => simp [intOf]; omega
                        · have hbd2 := hbd hfar
                          have t2 : (S m y == 4611686018427387904) = false := by
                            rw [beq_eq_false_iff_ne]
                            exact hfar
                          have HE := Lib.hid (HSU.out.trans (HCE.out.trans (if_neg hfar)))
                          clear hbd hfar r2
                          generalize S m y = a at *
                          generalize S x m = b at *
                          generalize S x y = c at *
                          have v1 : IntKind.i64.wrap ((x : Int) * (n : Int)) = (xq : Int) := by rw [hxq]; exact IntWalk.i64_in _ (by omega)
                          have v2 : IntKind.i64.wrap ((m : Int) * (n : Int)) = (mq : Int) := by rw [hmq]; exact IntWalk.i64_in _ (by omega)
                          have v3 : IntKind.i64.wrap ((xq : Int) + (m : Int)) = (xq : Int) + (m : Int) := IntWalk.i64_in _ (by omega)
                          have v4 : IntKind.i64.wrap ((mq : Int) + (y : Int)) = (mq : Int) + (y : Int) := IntWalk.i64_in _ (by omega)
                          have v5 : (0 : Int) ≤ (xq : Int) + (m : Int) := by omega
                          have v6 : (0 : Int) ≤ (mq : Int) + (y : Int) := by omega
                          have v7 : ((xq : Int) + (m : Int)).toNat = xq + m := by omega
                          have v8 : ((mq : Int) + (y : Int)).toNat = mq + y := by omega
                          have v9 : IntKind.i64.wrap (b + a) = b + a := IntWalk.i64_in _ (by omega)
                          by_cases hlt3 : b + a < c
                          · have HE2 := Lib.hid (HE.out.trans (if_pos hlt3))
                            go_wp2_with fail
                            go_quiet (fail)
                            clear v3 v4 v7 v8 v9
                            go_wp2_with fail
                            go_roundw
                            case rel => exact ⟨y + 1, by omega, by go_num, (below_drewN HB5.out _).setCell (p := ⟨w.heap.size, xq + y, none⟩) (Nat.le_refl _) _, by rw [HE2.out]; exact HSET.out _⟩
                            case measure => simp [intOf]; omega
                          · have HE2 := Lib.hid (HE.out.trans (if_neg hlt3))
                            go_wp2_with fail
                            go_quiet (fail)
                            clear v3 v4 v7 v8 v9
                            go_wp2_with fail
                            go_roundw
                            case rel => exact ⟨y + 1, by omega, by go_num, below_drewN HB5.out _, by rw [HE2.out]; exact HK5.out.drewN _⟩
                            case measure => simp [intOf]; omega
                      · have hye : y = n := by omega
                        subst hye
                        have HX := Lib.hid (HRS.out.trans HRA.out)
                        have hxqx := HXQ.out x hxn
                        generalize hS : rowS T m x y = S at *
                        have c5 : wr.cell? ⟨w.heap.size, xq + x, none⟩ = some (.int .i64 (S x x)) := by
                          rw [← HXQE.out, hblk.cell, intsGet _ _ (by rw [tabL_len, HN.out, HXQE.out]; exact hxqx), tabL_get _ hxn hxn]
                        have hst := HST.out
                        rw [HX.out] at hst
                        have HST2 := Lib.hid hst
                        have HB5 := Lib.hid hb
                        have HK5 := Lib.hid hblk
                        have u2 : (xq : Int) + (x : Int) < (k : Int) := by omega
                        clear hb hblk hS hst c1 t1
                        by_cases hneg : S x x < 0
                        · have HBAD := Lib.hid (HST2.out.1 hneg)
                          generalize S x x = d at *
                          go_wp2_with fail
                          go_ret2
                          exact ⟨HB5.out, .inl ⟨fun hf => hf m x hmn hxn HBAD.out, rfl⟩⟩
                        · have HGD := Lib.hid (fun h => hneg (HST2.out.2 h))
                          generalize S x x = d at *
                          go_wp2_with fail
                          go_roundw
                          case rel => exact ⟨x + 1, by omega, by go_num, HB5.out, by rw [HX.out]; exact HK5.out, fun x' hx' => by
                            rcases Nat.lt_succ_iff_lt_or_eq.1 hx' with h | rfl
                            · exact HNX2.out x' h
                            · exact HGD.out⟩
                          case measure => simp [intOf]; omega
                · have hxe : x = n := by omega
                  subst hxe
                  have HB4 := Lib.hid hb
                  have HK4 := Lib.hid hblk
                  clear hb hblk
                  go_wp2_with fail
                  go_roundw
                  case rel => exact ⟨m + 1, by omega, by go_num, HB4.out, by rw [HNX.out]; exact HK4.out, fun m' x' h1 h2 => by
                    rcases Nat.lt_succ_iff_lt_or_eq.1 h1 with h | rfl
                    · exact HNS.out m' x' h h2
                    · exact HNX2.out x' h2⟩
                  case measure => simp [intOf]; omega
            · have hme : m = n := by omega
              subst hme
              have HB3 := Lib.hid hb
              have HK3 := Lib.hid hblk
              clear hb hblk
              go_wp2_with fail
              go_ret2
              exact ⟨HB3.out, .inr ⟨fun m' x' h1 h2 => HNS.out m' x' h1 h2, w.heap.size, by rw [HN.out]; rfl, Nat.le_refl _, HK3.out⟩⟩

end Go.Proofs.Ytooogmppfjgdpaa
