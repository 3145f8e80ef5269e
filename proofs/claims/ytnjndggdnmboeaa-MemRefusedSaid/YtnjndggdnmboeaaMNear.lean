/- For MemRefused: what a refused call leaves, and what Blocks told as a thing that lies apart. -/
import Derived.Test.YtnjndggdnmboeaaMSame
import Derived.Test.YtnjndggdnmboeaaMCalls
import Derived.Test.YtnjndggdnmboeaaMStep3
namespace Go.Proofs.Ytnjndggdnmboeaa
open Go.RowKit

theorem ToldAt.zero {w : World} {B : Nat} {b : MB} {q : G3} (h : ToldAt w B b q) : ToldAt w 0 b q := ⟨h.c, h.r, h.w, Nat.zero_le _, Nat.zero_le _, Nat.zero_le _⟩
theorem BlocksIs.zero {w : World} {B g : Nat} {s : MS} {qs : List G3} (h : BlocksIs w B g s qs) : BlocksIs w 0 g s qs := ⟨h.row, h.len, fun i b q h1 h2 => (h.told i b q h1 h2).zero, Nat.zero_le _⟩
def toldT (g : Nat) (s : MS) (qs : List G3) : Thing where
  P w F := BlocksIs w 0 g s qs ∧ F g ∧ ∀ (i : Nat) (b : MB) (q : G3), s[i]? = some b → qs[i]? = some q → F q.c ∧ F q.r ∧ F q.w
  stay := fun h _ hb => by
    obtain ⟨h1, h2, h3⟩ := h
    refine ⟨⟨h1.row.same (hb _ h1.row.lt h2), h1.len, fun i b q e1 e2 => ?_, Nat.zero_le _⟩, h2, h3⟩
    have ht := h1.told i b q e1 e2
    obtain ⟨f1, f2, f3⟩ := h3 i b q e1 e2
    exact ⟨ht.c.same (hb _ ht.c.lt f1), ht.r.same (hb _ ht.r.lt f2), ht.w.same (hb _ ht.w.lt f3), Nat.zero_le _, Nat.zero_le _, Nat.zero_le _⟩
  more := fun h hF => by
    obtain ⟨h1, h2, h3⟩ := h
    refine ⟨h1, hF _ h1.row.lt h2, fun i b q e1 e2 => ?_⟩
    have ht := h1.told i b q e1 e2
    obtain ⟨f1, f2, f3⟩ := h3 i b q e1 e2
    exact ⟨hF _ ht.c.lt f1, hF _ ht.r.lt f2, hF _ ht.w.lt f3⟩
theorem Sep.toldNew {w W W' : World} {l l' : List Thing} (h : Sep w W l) (hb : Below W.heap.size W W') {g : Nat} {s : MS} {qs : List G3} (hB : BlocksIs W' W.heap.size g s qs) (hl : l ++ [toldT g s qs] = l') : Sep w W' l' := by
  subst hl
  refine h.add hb _ ⟨hB.zero, .inr ⟨hB.ge, hB.row.lt⟩, fun i b q e1 e2 => ?_⟩
  have ht := hB.told i b q e1 e2
  exact ⟨.inr ⟨ht.bc, ht.c.lt⟩, .inr ⟨ht.br, ht.r.lt⟩, .inr ⟨ht.bw, ht.w.lt⟩⟩
theorem Sep.told {w W : World} {l : List Thing} (h : Sep w W l) (i : Nat) {g : Nat} {s : MS} {qs : List G3} (hi : l[i]? = some (toldT g s qs)) : BlocksIs W 0 g s qs := by
  obtain ⟨F, h⟩ := h
  exact (h.holds i _ hi).1

/- Two states alike but for readers; R i j: how many fewer readers there are in the cells ahead of the cell j of the block i. -/
structure Near (s s' : MS) (R : Nat → Nat → Int) (T : Int) : Prop where
  len : s'.length = s.length
  used : usedS s' = usedS s
  blk : ∀ i a, s[i]? = some a → ∃ a', s'[i]? = some a' ∧ a'.live = a.live ∧ a'.cells.length = a.cells.length ∧ (∀ j c, a.cells[j]? = some c → ∃ r', a'.cells[j]? = some ⟨c.v, r', c.w⟩ ∧ c.r - r' = R i (j + 1) - R i j) ∧ R (i + 1) 0 = R i a.cells.length
  start : R 0 0 = 0
  fin : R s.length 0 = T
  bnd : ∀ i j, 0 ≤ R i j ∧ R i j ≤ 1
theorem Near.refl (s : MS) : Near s s (fun _ _ => 0) 0 :=
  ⟨rfl, rfl, fun i a ha => ⟨a, ha, rfl, rfl, fun j c hc => ⟨c.r, hc, by omega⟩, rfl⟩, rfl, rfl, fun _ _ => by omega⟩
def past (kk jj i j : Nat) : Int := if kk < i ∨ (kk = i ∧ jj < j) then 1 else 0
theorem Near.over {s : MS} {p : MV} (hp : whyC s p = 0) : Near s (upd s p ⟨(clOf s p).v, (clOf s p).r - 1, (clOf s p).w⟩) (past (at1 p) p.n.toNat) 1 := by
  obtain ⟨hB, j0, hj, hlt, hcj⟩ := whyC_ok hp
  obtain ⟨_, k0, _, hk1, hks, hbk, _⟩ := whyB_ok hB
  have hn : p.n.toNat = j0 := by omega
  rw [hn, hk1]
  refine ⟨upd_len _ _ _, usedS_upd _ _ _, ?_, ?_, ?_, ?_⟩
  · intro i a ha
    unfold upd
    rw [hk1, hn]
    by_cases hi : i = k0
    · subst hi
      rw [hbk] at ha
      cases ha
      refine ⟨⟨(bkOf s p).live, (bkOf s p).cells.set j0 ⟨(clOf s p).v, (clOf s p).r - 1, (clOf s p).w⟩⟩, by rw [List.getElem?_set_self hks], rfl, by simp, fun j c hc => ?_, ?_⟩
      · by_cases hjj : j = j0
        · subst hjj
          rw [hcj] at hc
          cases hc
          refine ⟨(clOf s p).r - 1, by rw [List.getElem?_set_self hlt], ?_⟩
          unfold past
          rw [if_pos (by omega), if_neg (by omega)]
          omega
        · refine ⟨c.r, by rw [List.getElem?_set_ne (Ne.symm hjj)]; exact hc, ?_⟩
          unfold past
          rcases Nat.lt_or_ge j0 j with h1 | h1
          · rw [if_pos (by omega), if_pos (by omega)]; omega
          · rw [if_neg (by omega), if_neg (by omega)]; omega
      · unfold past
        rw [if_pos (by omega), if_pos (by omega)]
    · refine ⟨a, by rw [List.getElem?_set_ne (Ne.symm hi)]; exact ha, rfl, rfl, fun j c hc => ⟨c.r, hc, ?_⟩, ?_⟩
      · unfold past
        rcases Nat.lt_or_ge k0 i with h1 | h1
        · rw [if_pos (by omega), if_pos (by omega)]; omega
        · rw [if_neg (by omega), if_neg (by omega)]; omega
      · unfold past
        rcases Nat.lt_or_ge k0 i with h1 | h1
        · rw [if_pos (by omega), if_pos (by omega)]
        · rw [if_neg (by omega), if_neg (by omega)]
  · unfold past
    rw [if_neg (by omega)]
  · unfold past
    rw [if_pos (by omega)]
  · intro i j
    unfold past
    split <;> omega

/- What a call leaves: 'refused' and 'over' as the law keeps them. -/
def RefRel (s s' : MS) (rf ov : Bool) : Prop := rf = true → ∃ R T, Near s s' R T ∧ T = if ov = true then 1 else 0
theorem RefRel.same {s s' : MS} (rf : Bool) (h : rf = true → s' = s) : RefRel s s' rf false := fun hr => by
  rw [h hr]
  exact ⟨_, _, Near.refl s, by simp⟩
theorem RefRel.no (s s' : MS) (ov : Bool) : RefRel s s' false ov := fun h => by cases h
theorem endS_keep {s : MS} {p : MV} {wr : Bool} {x : MV} (h : endW s p wr ≠ 0) (h4 : endW s p wr ≠ 4) : endS s p wr x = s := by
  unfold endS
  rw [if_neg (by omega)]
theorem endS_over {s : MS} {p : MV} {wr : Bool} {x : MV} (h4 : endW s p wr = 4) : whyC s p = 0 ∧ endS s p wr x = upd s p ⟨(clOf s p).v, (clOf s p).r - 1, (clOf s p).w⟩ := by
  have h0 : whyC s p = 0 := by
    have hle := whyC_le s p
    by_cases h0 : whyC s p = 0
    · exact h0
    · unfold endW at h4
      rw [if_pos h0] at h4
      omega
  have hw : wr = false := by
    cases wr
    · rfl
    · unfold endW at h4
      rw [if_neg (by omega), if_pos rfl] at h4
      split at h4 <;> omega
  subst hw
  refine ⟨h0, ?_⟩
  unfold endS
  rw [if_pos (.inr ⟨h4, h0⟩)]
  simp [endC]

end Go.Proofs.Ytnjndggdnmboeaa
