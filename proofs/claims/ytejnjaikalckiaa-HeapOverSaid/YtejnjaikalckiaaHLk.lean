/- The contract of heap.Heap.lock. -/
import Derived.Test.YtejnjaikalckiaaHLo
namespace Go.Proofs.Ytejnjaikalckiaa
open Go.RowKit

theorem may1 {H : Hp} {p : Sy} {n : Int} {held : Bool} (h : chunkE H p ≠ 0) : mayE H p n held = chunkE H p := by unfold mayE; rw [if_pos h]
theorem may2 {H : Hp} {p : Sy} {n : Int} {held : Bool} {c : Ck} (hc : ckAt H p.b = c) (h : chunkE H p = 0) (h2 : c.o ≠ 6 ∨ c.held ≠ held) : mayE H p n held = 45 := by subst hc; unfold mayE; rw [if_neg (by simpa using h), if_pos h2]
theorem may3 {H : Hp} {p : Sy} {n : Int} {held : Bool} {c : Ck} (hc : ckAt H p.b = c) (h : chunkE H p = 0) (h2 : c.o = 6) (h3 : c.held = held) (h4 : n ≠ c.at') : mayE H p n held = 42 := by subst hc; unfold mayE; rw [if_neg (by simpa using h), if_neg (by rintro (h | h); exact h h2; exact h h3), if_pos h4]
theorem may4 {H : Hp} {p : Sy} {n : Int} {held : Bool} {c : Ck} (hc : ckAt H p.b = c) (h : chunkE H p = 0) (h2 : c.o = 6) (h3 : c.held = held) (h4 : n = c.at') : mayE H p n held = 0 := by subst hc; unfold mayE; rw [if_neg (by simpa using h), if_neg (by rintro (h | h); exact h h2; exact h h3), if_neg (by simpa using h4)]
def MyPost (vc : Value) (H : Hp) (p : Sy) (n : Int) (held : Bool) (w : World) (e : Ending) (w' : World) : Prop :=
  e = .returned (.tuple #[.pointer (if mayE H p n held = 0 then ckPtr vc p.b.toNat else none), .int .i64 (mayE H p n held)]) ∧ Below w.heap.size w w'
theorem MyPost.no {vc : Value} {H : Hp} {p : Sy} {n : Int} {held : Bool} {w w' : World} {cd : Int} (h : mayE H p n held = cd) (hn : cd ≠ 0) (hb : Below w.heap.size w w') : MyPost vc H p n held w (.returned (.tuple #[.pointer none, .int .i64 cd])) w' := ⟨by rw [h, if_neg hn], hb⟩
theorem MyPost.yes {vc : Value} {H : Hp} {p : Sy} {n : Int} {held : Bool} {w w' : World} {A : Option Addr} (h : mayE H p n held = 0) (hA : ckPtr vc p.b.toNat = A) (hb : Below w.heap.size w w') : MyPost vc H p n held w (.returned (.tuple #[.pointer A, .int .i64 0])) w' := ⟨by rw [h, if_pos rfl, hA], hb⟩

set_option maxRecDepth 100000 in
set_option maxHeartbeats 8000000 in
theorem lock_may {w0 w : World} {R : Thing} {b : Nat} {vc vf : Value} {vs : List Value} {H : Hp} {olds : List (Value × Nat)} (h : HS pT w0 w R b vc vf vs H olds) (p : Sy) (n : Int) (held : Bool) :
    Calls Try.prog 52 #[.pointer (some ⟨b, 0, none⟩), SyV p, .int .i64 n, .bool held] w (MyPost vc H p n held w) := by
  have hb0 : Below w.heap.size w (w.alloc (.cells #[.int .i64 p.kind, .int .i64 p.v, .int .i64 p.k, .int .i64 p.b] 36)) := (Below.refl _ _).alloc (Nat.le_refl _) _
  have hch := chunk_any (HSg.quiet h hb0) p
  have HCK := Lib.hid fun (k : Nat) (c : Ck) (hc : H.chunks[k]? = some c) => HSg.chunk (k := k) (c := c) h hc
  clear h
  unfold SyV at *
  go_enter Try.func52, Try.ntmps52
  go_wp2_with fail
  ((with_reducible refine hch.mono ?_); rintro e w2 ⟨rfl, hb⟩)
  have HB2 := Lib.hid (hb0.trans (hb.mono hb0.size))
  clear hb hb0 hch
  by_cases hce : chunkE H p = 0
  case neg =>
    have HRE := Lib.hid (may1 (n := n) (held := held) hce)
    have HNO := Lib.hid hce
    rw [if_neg hce]
    have t1 : (chunkE H p != 0) = true := by simpa using hce
    clear hce HCK
    generalize chunkE H p = cd at *
    go_wp2_with fail
    go_ret2
    exact MyPost.no HRE.out HNO.out HB2.out
  case pos =>
    rw [hce, if_pos rfl]
    obtain ⟨_, kn, hkn, hkl, hck, _⟩ := chunkE_ok hce
    obtain ⟨c, hc⟩ : ∃ c, ckAt H p.b = c := ⟨_, rfl⟩
    have HC := Lib.hid hc
    have HCE := Lib.hid hce
    rw [hc] at hck
    have hpn : p.b.toNat = kn := by omega
    have HPN := Lib.hid hpn
    rw [hpn]
    obtain ⟨gk, capk, vk, rfl, _, hcm, hgl, hgb, hvk, hcell, hfz⟩ := HCK.out kn c hck
    have q0 : w2.cell? ⟨gk, kn * 11, none⟩ = some (.int .i64 c.o) := (HB2.out.cell (p := ⟨gk, kn * 11, none⟩) hgl).trans (hcell 0 (by omega))
    have q2 : w2.cell? ⟨gk, kn * 11 + 2, none⟩ = some (.int .i64 c.at') := (HB2.out.cell (p := ⟨gk, kn * 11 + 2, none⟩) hgl).trans (hcell 2 (by omega))
    have q4 : w2.cell? ⟨gk, kn * 11 + 4, none⟩ = some (.bool c.held) := (HB2.out.cell (p := ⟨gk, kn * 11 + 4, none⟩) hgl).trans (hcell 4 (by omega))
    simp only [ckPtr]
    clear HCK hcell hfz hvk hpn hck hc hce hkl
    by_cases h6 : c.o = 6
    · have t6 : (c.o != 6) = false := by simpa using h6
      have H6 := Lib.hid h6
      clear h6
      obtain ⟨hd, hhd⟩ : ∃ hd, c.held = hd := ⟨_, rfl⟩
      rw [hhd] at q4
      have HH := Lib.hid hhd
      clear hhd
      cases hd <;> cases held
      · skip
        by_cases hn : n = c.at'
        · have tn : (n != c.at') = false := by simpa using hn
          have HN := Lib.hid hn
          clear hn
          go_wp2_with fail
          go_ret2
          exact MyPost.yes (may4 HC.out HCE.out H6.out HH.out HN.out) (by rw [HPN.out]; rfl) HB2.out
        · have tn : (n != c.at') = true := by simpa using hn
          have HN := Lib.hid hn
          clear hn
          go_wp2_with fail
          go_ret2
          exact MyPost.no (may3 HC.out HCE.out H6.out HH.out HN.out) (by decide) HB2.out
      · skip
        go_wp2_with fail
        go_ret2
        exact MyPost.no (may2 HC.out HCE.out (.inr (by rw [HH.out]; decide))) (by decide) HB2.out
      · skip
        go_wp2_with fail
        go_ret2
        exact MyPost.no (may2 HC.out HCE.out (.inr (by rw [HH.out]; decide))) (by decide) HB2.out
      · skip
        by_cases hn : n = c.at'
        · have tn : (n != c.at') = false := by simpa using hn
          have HN := Lib.hid hn
          clear hn
          go_wp2_with fail
          go_ret2
          exact MyPost.yes (may4 HC.out HCE.out H6.out HH.out HN.out) (by rw [HPN.out]; rfl) HB2.out
        · have tn : (n != c.at') = true := by simpa using hn
          have HN := Lib.hid hn
          clear hn
          go_wp2_with fail
          go_ret2
          exact MyPost.no (may3 HC.out HCE.out H6.out HH.out HN.out) (by decide) HB2.out
    · have t6 : (c.o != 6) = true := by simpa using h6
      have H6 := Lib.hid h6
      clear h6
      go_wp2_with fail
      go_ret2
      exact MyPost.no (may2 HC.out HCE.out (.inl H6.out)) (by decide) HB2.out

end Go.Proofs.Ytejnjaikalckiaa
