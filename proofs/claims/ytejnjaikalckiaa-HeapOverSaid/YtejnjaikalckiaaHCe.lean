/- The contract of the closure of lychgatelaw13.HeapOver. -/
import Derived.Test.YtejnjaikalckiaaHFa
namespace Go.Proofs.Ytejnjaikalckiaa
open Go.RowKit

def cellN (vs : List Int) (own : List Sy) (v : Int) : Int := if v = 0 then 0 else vs.getD (own.getD (v - 1).toNat sy0).v.toNat 0 + (own.getD (v - 1).toNat sy0).k

structure OwnOk (vs : List Int) (own : List Sy) : Prop where
  each : ∀ s ∈ own, s.kind = 1 ∧ 0 ≤ s.v ∧ s.v < vs.length ∧ -1099511627776 ≤ s.k ∧ s.k ≤ 1099511627776
  num : ∀ z ∈ vs, -1099511627776 ≤ z ∧ z ≤ 1099511627776

set_option maxRecDepth 100000 in
set_option maxHeartbeats 8000000 in
theorem cell_any {vs : List Int} {own : List Sy} (hok : OwnOk vs own) {A : Option Addr} {cap gv gb go : Nat} (v : Int) (hv : 0 ≤ v ∧ v ≤ own.length) (hl : own.length ≤ 1000) (hvl : vs.length ≤ 1000) (w : World) (hb : w.cell? ⟨gb, 0, none⟩ = some (.slice (some ⟨gv, 0, none⟩) vs.length vs.length)) (ho : w.cell? ⟨go, 0, none⟩ = some (.slice A own.length cap)) (hA : SysAt w w.heap.size A own) (hvs : Blk w gv (ints vs) 2) :
    Calls Try.prog 19 #[.int .i64 v, .pointer (some ⟨gb, 0, none⟩), .pointer (some ⟨go, 0, none⟩)] w fun e w' => e = .returned (.int .i64 (cellN vs own v)) ∧ Below w.heap.size w w' := by
  unfold cellN
  by_cases h0 : v = 0
  · have t0 : (v == 0) = true := by simpa using h0
    rw [if_pos h0]
    clear h0 hA hvs
    go_enter Try.func19, Try.ntmps19
    go_wp2_with fail
    go_ret
    exact ⟨rfl, Below.refl _ _⟩
  · have t0 : (v == 0) = false := by simpa using h0
    rw [if_neg h0]
    obtain ⟨j, hj⟩ : ∃ j : Nat, v - 1 = (j : Int) := ⟨(v - 1).toNat, by omega⟩
    rw [hj, Int.toNat_natCast]
    have hjl : j < own.length := by omega
    obtain ⟨s, hs⟩ : ∃ s, own[j]? = some s := ⟨_, List.getElem?_eq_getElem hjl⟩
    obtain ⟨b, off, rfl, hbl, hc⟩ := hA (by omega)
    obtain ⟨_, c1, c2, _⟩ := hc j s hs
    have hgd : own.getD j sy0 = s := by rw [List.getD_eq_getElem?_getD, hs]; rfl
    rw [hgd]
    obtain ⟨_, v0, v1, k0, k1⟩ := hok.each s (List.mem_of_getElem? hs)
    obtain ⟨q, hq⟩ : ∃ q : Nat, s.v = (q : Int) := ⟨s.v.toNat, by omega⟩
    rw [hq, Int.toNat_natCast]
    have hql : q < vs.length := by omega
    have cv : w.cell? ⟨gv, q, none⟩ = some (.int .i64 (vs.getD q 0)) := (hvs.cell q).trans (intsGet vs q hql)
    have hz := hok.num (vs.getD q 0) (by rw [List.getD_eq_getElem?_getD, List.getElem?_eq_getElem hql]; exact List.getElem_mem hql)
    rw [hq] at c1
    have hj2 : (j : Int) < (own.length : Int) := by omega
    have hq2 : (q : Int) < (vs.length : Int) := by omega
    generalize vs.getD q 0 = z at *
    generalize s.k = sk at *
    clear hc hgd hs hok h0 hvs hA
    go_enter Try.func19, Try.ntmps19
    go_wp2_with fail
    go_quiet (fail)
    go_wp2_with fail
    go_ret
    exact ⟨rfl, below_drewN (Below.refl _ _) _⟩

end Go.Proofs.Ytejnjaikalckiaa
