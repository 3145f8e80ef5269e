/- The contract of lychgatelaw04.circle on a circle. -/
import Derived.Test.YtpoohappocehdaaDWakes
namespace Go.Proofs.Ytpoohappocehdaa
open Go.RowKit

/- A list of numbers in memory, its block below B. -/
def NumsAt (w : World) (B : Nat) (A : Option Addr) (l : List Int) : Prop :=
  0 < l.length → ∃ b off, A = some ⟨b, off, none⟩ ∧ b < B ∧ ∀ i, i < l.length → w.cell? ⟨b, off + i, none⟩ = some (.int .i64 (l.getD i 0))
theorem NumsAt.below {w w' : World} {B B' : Nat} {A : Option Addr} {l : List Int} (h : NumsAt w B A l) (hb : Below B' w w') (hB : B ≤ B') : NumsAt w' B A l := fun hn => by
  obtain ⟨b, off, e, hlt, hc⟩ := h hn
  exact ⟨b, off, e, hlt, fun i hi => (hb.cell (p := ⟨b, off + i, none⟩) (by show b < B'; omega)).trans (hc i hi)⟩
theorem NumsAt.more {w : World} {B B' : Nat} {A : Option Addr} {l : List Int} (h : NumsAt w B A l) (hB : B ≤ B') : NumsAt w B' A l := fun hn => by
  obtain ⟨b, off, e, hlt, hc⟩ := h hn
  exact ⟨b, off, e, by omega, hc⟩

def natInts (c : List Nat) : List Int := c.map fun (k : Nat) => (k : Int)
theorem natInts_len (c : List Nat) : (natInts c).length = c.length := by simp [natInts]
theorem natInts_get (c : List Nat) (i : Nat) : (natInts c).getD i 0 = (c.getD i 0 : Nat) := by
  unfold natInts
  rw [List.getD_eq_getElem?_getD, List.getElem?_map, List.getD_eq_getElem?_getD]
  cases c[i]? <;> rfl

theorem NumsAt.of_own {w : World} {base cap : Nat} {A : Option Addr} {c : List Nat} {t : TypeId} (h : w.ownsRow base t 1 (.slice A c.length cap) c.length (nats c)) : NumsAt w w.heap.size A (natInts c) := by
  intro hn
  rw [natInts_len] at hn
  obtain ⟨g, cap', hv, hg1, hg2⟩ := h.form hn
  cases hv
  refine ⟨g, 0, rfl, hg2, fun i hi => ?_⟩
  rw [natInts_len] at hi
  rw [Nat.zero_add, h.cellAt i (by omega), natsGet c i hi, natInts_get]

theorem sum_bound (l : List Int) (h : ∀ x ∈ l, -8796093022208 ≤ x ∧ x ≤ 8796093022208) : ∀ k : Nat, -8796093022208 * (k : Int) ≤ (l.take k).sum ∧ (l.take k).sum ≤ 8796093022208 * (k : Int)
  | 0 => by simp
  | k + 1 => by
    have ih := sum_bound l h k
    by_cases hk : k < l.length
    · rw [sum_take_succ l k hk]
      have := h (l.getD k 0) (by rw [List.getD_eq_getElem?_getD, List.getElem?_eq_getElem hk]; exact List.getElem_mem hk)
      omega
    · rw [List.take_of_length_le (by omega)] at ih ⊢
      omega

def costs (fs : List F) (c : List Nat) : List Int := c.map fun k => (fs.getD k zeroF).c
theorem costs_get (fs : List F) (c : List Nat) (i : Nat) (h : i < c.length) : (costs fs c).getD i 0 = (fs.getD (c.getD i 0) zeroF).c := by
  unfold costs
  rw [List.getD_eq_getElem?_getD, List.getElem?_map, List.getElem?_eq_getElem h, List.getD_eq_getElem?_getD (l := c), List.getElem?_eq_getElem h]
  rfl

set_option maxHeartbeats 4000000 in
theorem lawCircle_any (A A2 : Option Addr) (cap c2 n : Nat) (fs : List F) (c : List Nat) (w : World) (hfs : FactsAt w w.heap.size A fs) (hcs : NumsAt w w.heap.size A2 (natInts c)) (hc : IsCircle fs c) (hl : c.length ≤ 96) (fit : ∀ f ∈ fs, FitF n f) (hm : fs.length ≤ 768) :
    Calls Try.prog 15 #[.slice A fs.length cap, .slice A2 c.length c2] w fun e w' => e = .returned (.bool true) ∧ Below w.heap.size w w' := by
  have hc0 := hc.ne
  obtain ⟨b2, off2, rfl, hb2, hcell2⟩ := hcs (by rw [natInts_len]; exact hc0)
  have hfl : 0 < fs.length := by have := hc.lt 0 hc0; omega
  obtain ⟨b1, off1, rfl, hb1, hcell1⟩ := hfs hfl
  have HC2 : Hid (∀ i, i < c.length → w.cell? ⟨b2, off2 + i, none⟩ = some (.int .i64 (c.getD i 0 : Nat))) := Lib.hid fun i hi => by
    have := hcell2 i (by rw [natInts_len]; exact hi)
    rw [natInts_get] at this
    exact this
  have HC1 : Hid (∀ k, k < fs.length → w.cell? ⟨b1, off1 + k * 3, none⟩ = some (.int .i64 (fs.getD k zeroF).x) ∧ w.cell? ⟨b1, off1 + k * 3 + 1, none⟩ = some (.int .i64 (fs.getD k zeroF).y) ∧ w.cell? ⟨b1, off1 + k * 3 + 2, none⟩ = some (.int .i64 (fs.getD k zeroF).c)) := Lib.hid fun k hk =>
    hcell1 k _ (by rw [List.getD_eq_getElem?_getD, List.getElem?_eq_getElem hk]; rfl)
  have HB : Hid (∀ k : Nat, -8796093022208 * (k : Int) ≤ ((costs fs c).take k).sum ∧ ((costs fs c).take k).sum ≤ 8796093022208 * (k : Int)) := Lib.hid (sum_bound _ fun x hx => by
    unfold costs at hx
    obtain ⟨k, hk, rfl⟩ := List.mem_map.1 hx
    obtain ⟨i, hi, he⟩ := List.mem_iff_getElem.1 hk
    have h1 := hc.lt i hi
    rw [List.getD_eq_getElem?_getD, List.getElem?_eq_getElem hi, he] at h1
    have := fit _ (mem_getD h1)
    exact ⟨this.c0, this.c1⟩)
  have HC := Lib.hid hc
  clear hcs hfs hcell1 hcell2 hc fit
  go_enter Try.func15, Try.ntmps15
  go_wp2
  go_loopw [5, 11] (fun su i wr => ∃ k : Nat, k ≤ c.length ∧ i = .int .i64 k ∧ su = .int .i64 ((costs fs c).take k).sum ∧ Below w.heap.size w wr) (fun _ i _ => c.length - (intOf i).toNat)
  case atStart => exact ⟨0, by omega, rfl, rfl, Below.refl _ _⟩
  case round =>
    obtain ⟨k, hk, rfl, rfl, hb⟩ := hrel
    by_cases hlt : k < c.length
    · have hbd := HB.out k
      have ha := HC.out.lt k hlt
      have hmod := Nat.mod_lt (k + 1) hc0
      have hd := HC.out.lt ((k + 1) % c.length) hmod
      have hnx := HC.out.nx k hlt
      have ck : wr.cell? ⟨b2, off2 + k, none⟩ = _ := (hb.cell (p := ⟨b2, off2 + k, none⟩) hb2).trans (HC2.out k hlt)
      have cn : wr.cell? ⟨b2, off2 + (k + 1) % c.length, none⟩ = _ := (hb.cell (p := ⟨b2, _, none⟩) hb2).trans (HC2.out _ hmod)
      have HSUM := Lib.hid ((sum_take_succ (costs fs c) k (by simpa [costs] using hlt)).trans (by rw [costs_get fs c k hlt]))
      generalize c.getD k 0 = a at *
      generalize c.getD ((k + 1) % c.length) 0 = d at *
      obtain ⟨_, cay, cac⟩ := HC1.out a ha
      obtain ⟨cdx, _, _⟩ := HC1.out d hd
      replace cay : wr.cell? ⟨b1, off1 + a * 3 + 1, none⟩ = _ := (hb.cell (p := ⟨b1, off1 + a * 3 + 1, none⟩) hb1).trans cay
      replace cac : wr.cell? ⟨b1, off1 + a * 3 + 2, none⟩ = _ := (hb.cell (p := ⟨b1, off1 + a * 3 + 2, none⟩) hb1).trans cac
      replace cdx : wr.cell? ⟨b1, off1 + d * 3, none⟩ = _ := (hb.cell (p := ⟨b1, off1 + d * 3, none⟩) hb1).trans cdx
      rw [← hnx] at cdx
      generalize (fs.getD a zeroF).y = Y at *
      generalize (fs.getD a zeroF).c = C at *
      have hbd2 := HB.out (k + 1)
      rw [HSUM.out] at hbd2
      generalize ((costs fs c).take k).sum = S at *
      have a1 : (a : Int) < (fs.length : Int) := by omega
      have d1 : (d : Int) < (fs.length : Int) := by omega
      have HB2 := Lib.hid hb
      have z1 : decide ((a : Int) < 0) = false := by simp
      have z2 : decide ((d : Int) < 0) = false := by simp
      have z3 : decide (fs.length ≤ a) = false := by simp; omega
      have z4 : decide (fs.length ≤ d) = false := by simp; omega
      have z5 : (0 : Int) ≤ ((k : Int) + 1) % (c.length : Int) := Int.emod_nonneg _ (by omega)
      have z6 : ((k : Int) + 1) % (c.length : Int) < (c.length : Int) := Int.emod_lt_of_pos _ (by omega)
      have z7 : (Y != Y) = false := by simp
      clear hb hnx
      go_wp2_with fail
      go_quiet (fail)
      go_wp2
      go_roundw
      case rel => exact ⟨k + 1, by omega, by go_num, by rw [HSUM.out], below_drewN HB2.out _⟩
      case measure => simp [intOf]; omega
    · have hke : k = c.length := by omega
      subst hke
      have hneg := HC.out.neg
      change (costs fs c).sum < 0 at hneg
      have e : (costs fs c).take c.length = costs fs c := List.take_of_length_le (by simp [costs])
      rw [e]
      generalize (costs fs c).sum = S at *
      have HB2 := Lib.hid hb
      clear hb e
      go_wp2
      go_ret
      exact ⟨rfl, HB2.out⟩

end Go.Proofs.Ytpoohappocehdaa
