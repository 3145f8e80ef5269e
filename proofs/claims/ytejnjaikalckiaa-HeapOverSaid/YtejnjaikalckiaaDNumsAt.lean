/- Lists of numbers in memory; sums of costs. No conditions. -/
import Derived.Test.YtejnjaikalckiaaDEnt2
namespace Go.Proofs.Ytejnjaikalckiaa
open Go.RowKit

/- A list of numbers in memory, its block below B. -/
def NumsAt (w : World) (B : Nat) (A : Option Addr) (l : List Int) : Prop :=
  0 < l.length → ∃ b off, A = some ⟨b, off, none⟩ ∧ b < B ∧ ∀ i, i < l.length → w.cell? ⟨b, off + i, none⟩ = some (.int .i64 (l.getD i 0))
theorem NumsAt.below {w w' : World} {B B' : Nat} {A : Option Addr} {l : List Int} (h : NumsAt w B A l) (hb : Below B' w w') (hB : B ≤ B') : NumsAt w' B A l := fun hn => by
  obtain ⟨b, off, e, hlt, hc⟩ := h hn
  exact ⟨b, off, e, hlt, fun i hi => (hb.cell (p := ⟨b, off + i, none⟩) (by show b < B'; omega)).trans (hc i hi)⟩
theorem NumsAt.more {w : World} {B B' : Nat} {A : Option Addr} {l : List Int} (h : NumsAt w B A l) (hB : B ≤ B') : NumsAt w B' A l := fun hn => by
  obtain ⟨b, off, e, hlt, hc⟩ := h hn
  exact ⟨b, off, e, by omega, hc⟩

def natInts (c : List Nat) : List Int := c.map fun (k : Nat) => (k : Int)
theorem natInts_len (c : List Nat) : (natInts c).length = c.length := by simp [natInts]
theorem natInts_get (c : List Nat) (i : Nat) : (natInts c).getD i 0 = (c.getD i 0 : Nat) := by
  unfold natInts
  rw [List.getD_eq_getElem?_getD, List.getElem?_map, List.getD_eq_getElem?_getD]
  cases c[i]? <;> rfl

theorem NumsAt.of_own {w : World} {base cap : Nat} {A : Option Addr} {c : List Nat} {t : TypeId} (h : w.ownsRow base t 1 (.slice A c.length cap) c.length (nats c)) : NumsAt w w.heap.size A (natInts c) := by
  intro hn
  rw [natInts_len] at hn
  obtain ⟨g, cap', hv, hg1, hg2⟩ := h.form hn
  cases hv
  refine ⟨g, 0, rfl, hg2, fun i hi => ?_⟩
  rw [natInts_len] at hi
  rw [Nat.zero_add, h.cellAt i (by omega), natsGet c i hi, natInts_get]

theorem sum_bound (l : List Int) (h : ∀ x ∈ l, -8796093022208 ≤ x ∧ x ≤ 8796093022208) : ∀ k : Nat, -8796093022208 * (k : Int) ≤ (l.take k).sum ∧ (l.take k).sum ≤ 8796093022208 * (k : Int)
  | 0 => by simp
  | k + 1 => by
    have ih := sum_bound l h k
    by_cases hk : k < l.length
    · rw [sum_take_succ l k hk]
      have := h (l.getD k 0) (by rw [List.getD_eq_getElem?_getD, List.getElem?_eq_getElem hk]; exact List.getElem_mem hk)
      omega
    · rw [List.take_of_length_le (by omega)] at ih ⊢
      omega

def costs (fs : List F) (c : List Nat) : List Int := c.map fun k => (fs.getD k zeroF).c
theorem costs_get (fs : List F) (c : List Nat) (i : Nat) (h : i < c.length) : (costs fs c).getD i 0 = (fs.getD (c.getD i 0) zeroF).c := by
  unfold costs
  rw [List.getD_eq_getElem?_getD, List.getElem?_map, List.getElem?_eq_getElem h, List.getD_eq_getElem?_getD (l := c), List.getElem?_eq_getElem h]
  rfl

end Go.Proofs.Ytejnjaikalckiaa
