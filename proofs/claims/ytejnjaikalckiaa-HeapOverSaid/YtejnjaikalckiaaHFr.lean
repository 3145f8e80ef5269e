/- The contracts of heap.Heap's Fresh and Assume. -/
import Derived.Test.YtejnjaikalckiaaHApp
import Derived.Deep.RegionHeld3
namespace Go.Proofs.Ytejnjaikalckiaa
open Go.RowKit

abbrev pT : HTy := ⟨27, 40, 36, 45⟩
theorem Try.leqRow : ∃ i z, RowI Try.prog 23 45 3 24 i z := by
  obtain ⟨i0, hi, hz0, hz1, hz2⟩ := info_parts Try.infoLeq
  exact ⟨i0, _, Try.underlying23, hi, hz0, hz1, hz2, rfl, by decide⟩

def SyV (s : Sy) : Value := .agg #[.int .i64 s.kind, .int .i64 s.v, .int .i64 s.k, .int .i64 s.b]

/- The cells of a heap's own block. -/
theorem HSg.three {T : HTy} {w0 W : World} {R : Thing} {b : Nat} {vc vf : Value} {n : Int} {c0 c2 : Value} {vs : List Value} {H : Hp} {olds : List (Value × Nat)} (h : HSg T w0 W R b [c0, .int .i64 n, c2] vc vf vs H olds) :
    W.cell? ⟨b, 0, none⟩ = some c0 ∧ W.cell? ⟨b, 1, none⟩ = some (.int .i64 n) ∧ W.cell? ⟨b, 2, none⟩ = some c2 ∧ (∀ j, W.frozen? ⟨b, j, none⟩ = false) ∧ b < W.heap.size :=
  ⟨h.blk.cell 0, h.blk.cell 1, h.blk.cell 2, h.blk.frozen, h.blk.lt⟩

/- The cells of a literal of two facts in a new block. -/
theorem lit2_at (w : World) (e : TypeId) (cs : List Value) : ∀ j u, cs[j]? = some u → (w.alloc (.cells cs.toArray e)).cell? ((⟨w.heap.size, 0, none⟩ : Addr).add j) = some u := fun j u hj => by
  rw [Addr.add_mid, Nat.zero_add, (Blk.new w cs e).cell j]
  exact hj

theorem allOne (l : List Value) (h : (l.all fun u => u.oneCell') = true) : ∀ u ∈ l, u.oneCell' = true := fun u hu => List.all_eq_true.1 h u hu
def Stop (p : Prop) : Prop := p
theorem stop_ {p : Prop} (h : Stop p) : p := h
/- A return where a result, a value, stands in a box. -/
theorem ret_box {P : Program} {fn : Func} {Q : Ending → World → Prop} {a : Act} {W : World} {g : Nat} {cs : List Value} {t : TypeId} {v : Value} (hb : Blk W g cs t) (hr : ∀ W', Blk W' g cs t → (results fn a.tmps).run P W' = .ok v W') (hd : a.defers = []) (hQ : Q (.returned v) W) : bodyPost P fn Q .ret a W :=
  bodyPost_ret (hr W hb) hd hQ
theorem Blk.four {W : World} {g : Nat} {a b c d : Value} {t : TypeId} (h : Blk W g [a, b, c, d] t) : W.cell? ⟨g, 0, none⟩ = some a ∧ W.cell? ⟨g, 1, none⟩ = some b ∧ W.cell? ⟨g, 2, none⟩ = some c ∧ W.cell? ⟨g, 3, none⟩ = some d ∧ (∀ j, W.frozen? ⟨g, j, none⟩ = false) ∧ g < W.heap.size := ⟨h.cell 0, h.cell 1, h.cell 2, h.cell 3, h.frozen, h.lt⟩
def FrPost (w0 : World) (R : Thing) (b : Nat) (vc : Value) (vs : List Value) (H H' : Hp) (olds : List (Value × Nat)) (v : Value) (e : Ending) (w' : World) : Prop :=
  ∃ vf', e = .returned v ∧ HS pT w0 w' R b vc vf' vs H' olds

set_option maxRecDepth 100000 in
set_option maxHeartbeats 4000000 in
theorem fresh_any {w0 w : World} {R : Thing} {b : Nat} {vc vf : Value} {vs : List Value} {H : Hp} {olds : List (Value × Nat)} (h : HS pT w0 w R b vc vf vs H olds) (hl : H.facts.length ≤ 768) (hv : 0 ≤ H.vars ∧ H.vars ≤ 96) :
    Calls Try.prog 21 #[.pointer (some ⟨b, 0, none⟩)] w (FrPost w0 R b vc vs H (freshH H) olds (.tuple #[SyV (freshY H), .int .i64 (freshE H)])) := by
  have hb1 : Below w.heap.size w (w.alloc (.cells #[.int .i64 0, .int .i64 0, .int .i64 0, .int .i64 0] 36)) := (Below.refl _ _).alloc (Nat.le_refl _) _
  have h1 := HSg.quiet h hb1
  have hlt := h1.blk.lt
  have hne : b ≠ w.heap.size := by have := h.blk.lt; omega
  obtain ⟨A, cap, rfl, hfa, _, _⟩ := h1.factsForm
  obtain ⟨c0, c1, c2, z, _⟩ := HSg.three h
  have HH := Lib.hid h
  by_cases hc : freshC H = true
  · have HF : Hid (FrPost w0 R b vc vs H H olds (.tuple #[SyV sy0, .int .i64 22]) = FrPost w0 R b vc vs H (freshH H) olds (.tuple #[SyV (freshY H), .int .i64 (freshE H)])) := Lib.hid (by unfold freshH freshY freshE; rw [if_pos hc, if_pos hc, if_pos hc])
    rw [← HF.out]
    clear h h1
    unfold freshC at hc
    by_cases h96 : 96 ≤ H.vars
    · go_enter Try.func21, Try.ntmps21
      go_wp2
      refine bodyPost_ret (v := .tuple #[SyV sy0, .int .i64 22]) (by simp [results, Try.results21, go_sem, SyV, sy0]) rfl ?_
      exact ⟨_, rfl, HSg.quiet HH.out (by go_grown)⟩
    · have h766 : (766 : Int) < (H.facts.length : Int) := by simp [h96] at hc; omega
      go_enter Try.func21, Try.ntmps21
      go_wp2
      refine bodyPost_ret (v := .tuple #[SyV sy0, .int .i64 22]) (by simp [results, Try.results21, go_sem, SyV, sy0]) rfl ?_
      exact ⟨_, rfl, HSg.quiet HH.out (by go_grown)⟩
  · have HF : Hid (FrPost w0 R b vc vs H ⟨H.chunks, H.vars + 1, H.facts ++ [⟨H.vars, 0, 1099511627776⟩, ⟨0, H.vars, 1099511627776⟩]⟩ olds (.tuple #[SyV ⟨1, H.vars, 0, 0⟩, .int .i64 0]) = FrPost w0 R b vc vs H (freshH H) olds (.tuple #[SyV (freshY H), .int .i64 (freshE H)])) := Lib.hid (by unfold freshH freshY freshE; rw [if_neg hc, if_neg hc, if_neg hc])
    rw [← HF.out]
    have h96 : ¬ 96 ≤ H.vars := by unfold freshC at hc; simp at hc; omega
    have h766 : ¬ (766 : Int) < (H.facts.length : Int) := by unfold freshC at hc; simp at hc; omega
    have h2 := ((HSg.put h 1 (.int .i64 (H.vars + 1))).box [.int .i64 0, .int .i64 0, .int .i64 0, .int .i64 0] 36).quiet ((Below.refl _ _).alloc (Nat.le_refl _) (.cells #[.int .i64 H.vars, .int .i64 0, .int .i64 1099511627776, .int .i64 0, .int .i64 H.vars, .int .i64 1099511627776] 45))
    obtain ⟨i0, z0, I⟩ := Try.leqRow
    have ho := h2.facts
    have H2 := Lib.hid h2
    clear h h1 h2 hc
    go_enter Try.func21, Try.ntmps21
    go_wp2_with (at_builtin; refine stop_ ?_)
    unfold Stop
    refine (wpList_append_hist rfl (.tmp 37) (.tmp 42) rfl I rfl ho rfl (news := [.int .i64 H.vars, .int .i64 0, .int .i64 1099511627776, .int .i64 0, .int .i64 H.vars, .int .i64 1099511627776]) rfl (by have h := lit2_at ((w.setCell ⟨b, 1, none⟩ (.int .i64 (H.vars + 1))).alloc (.cells #[.int .i64 0, .int .i64 0, .int .i64 0, .int .i64 0] 36)) 45 [.int .i64 H.vars, .int .i64 0, .int .i64 1099511627776, .int .i64 0, .int .i64 H.vars, .int .i64 1099511627776]; simpa using h) (allOne _ rfl) (by unfold maxLen; omega) (by omega) ?_)
    intro A' c' w3 ha
    have h3 := HSg.appended (gs := [⟨H.vars, 0, 1099511627776⟩, ⟨0, H.vars, 1099511627776⟩]) H2.out rfl ha
    obtain ⟨d0, d1, d2, z3, hlt3⟩ := HSg.three (n := H.vars + 1) h3
    obtain ⟨hk, hkb⟩ := h3.local
    rw [show (w.setCell ⟨b, 1, none⟩ (.int .i64 (H.vars + 1))).heap.size = w.heap.size by simp] at hk hkb
    have k0 := hk.cell 0
    have k1 := hk.cell 1
    have k2 := hk.cell 2
    have k3 := hk.cell 3
    have kz := hk.frozen
    have klt := hk.lt
    have H3 := Lib.hid h3
    clear ha H2 I ho hk h3
    simp only [List.getElem?_cons_zero, List.getElem?_cons_succ] at k0 k1 k2 k3
    go_wp2
    have h4 := H3.out.put 2 (.slice A' (H.facts.length + 2) c')
    rw [show (w.setCell ⟨b, 1, none⟩ (.int .i64 (H.vars + 1))).heap.size = w.heap.size by simp] at h4
    have h5 := (((h4.localPut 0 (.int .i64 1)).localPut 1 (.int .i64 H.vars)).localPut 2 (.int .i64 0)).localPut 3 (.int .i64 0)
    refine ret_box (v := .tuple #[SyV ⟨1, H.vars, 0, 0⟩, .int .i64 0]) h5.local.1 (fun W' hb => ?_) rfl ?_
    · obtain ⟨q0, q1, q2, q3, _⟩ := hb.four
      simp [results, Try.results21, go_sem, SyV, q0, q1, q2, q3]
    · exact ⟨_, rfl, h5.front.vars (H.vars + 1)⟩

/- Facts that come in, appended. -/
set_option maxRecDepth 100000 in
set_option maxHeartbeats 4000000 in
theorem assume_any {w0 w : World} {R : Thing} {b : Nat} {vc vf : Value} {vs : List Value} {H : Hp} {olds : List (Value × Nat)} (h : HS pT w0 w R b vc vf vs H olds) (hl : H.facts.length ≤ 768) {A : Option Addr} {cap : Nat} {fs : List F} (hf : FactsAt w w.heap.size A fs) (hfl : fs.length ≤ 1000000) :
    Calls Try.prog 22 #[.pointer (some ⟨b, 0, none⟩), .slice A fs.length cap] w (FrPost w0 R b vc vs H (assumeH H fs) olds (.int .i64 (assumeE H fs))) := by
  obtain ⟨A0, cap0, rfl, hfa, _, _⟩ := HSg.factsForm h
  obtain ⟨c0, c1, c2, z, hlt⟩ := HSg.three h
  have HH := Lib.hid h
  unfold assumeH assumeE
  by_cases hc : 768 < H.facts.length + fs.length
  · rw [if_pos hc, if_pos hc]
    clear h
    go_enter Try.func22, Try.ntmps22
    go_wp2
    go_ret
    exact ⟨_, rfl, HSg.quiet HH.out (by go_grown)⟩
  · rw [if_neg hc, if_neg hc]
    obtain ⟨i0, z0, I⟩ := Try.leqRow
    have ho := HSg.facts h
    clear h
    go_enter Try.func22, Try.ntmps22
    go_wp2_with (at_builtin; refine stop_ ?_)
    unfold Stop
    refine (wpList_append_histF rfl (.tmp 20) (.tmp 21) rfl I rfl ho rfl hf rfl (by unfold maxLen; omega) (by omega) ?_)
    intro A' c' w3 ha
    have h3 := HSg.appended HH.out rfl ha
    obtain ⟨d0, d1, d2, z3, hlt3⟩ := HSg.three (n := H.vars) h3
    have H3 := Lib.hid h3
    clear ha I ho h3
    go_wp2
    go_ret
    exact ⟨_, rfl, H3.out.put 2 (.slice A' (H.facts.length + fs.length) c')⟩

end Go.Proofs.Ytejnjaikalckiaa
