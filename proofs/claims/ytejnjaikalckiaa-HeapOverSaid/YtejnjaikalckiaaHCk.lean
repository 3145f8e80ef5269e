/- The contract of heap.Heap.chunk. -/
import Derived.Test.YtejnjaikalckiaaHLe
import Derived.Deep.QuietTactic
namespace Go.Proofs.Ytejnjaikalckiaa
open Go.RowKit

/- Where the k-th chunk lies. -/
def ckPtr (vc : Value) (k : Nat) : Option Addr := match vc with | .slice (some a) _ _ => some ⟨a.block, k * 11, none⟩ | _ => none
theorem wantE_cases (s : Sy) (k : Int) : wantE s k = 0 ∨ wantE s k = 41 ∨ wantE s k = 40 := by
  unfold wantE
  split
  · exact .inl rfl
  · split
    · exact .inr (.inl rfl)
    · exact .inr (.inr rfl)
theorem chunkE_ok {H : Hp} {p : Sy} (h : chunkE H p = 0) : p.kind = 2 ∧ ∃ k : Nat, p.b = k ∧ k < H.chunks.length ∧ H.chunks[k]? = some (ckAt H p.b) ∧ (ckAt H p.b).live = true := by
  unfold chunkE at h
  split at h
  · rename_i h1
    exact absurd h h1
  · rename_i h1
    split at h
    · cases h
    · rename_i h2
      split at h
      · rename_i h3
        have hk : p.kind = 2 := by
          by_cases h4 : p.kind = 2
          · exact h4
          · unfold wantE at h1
            rw [if_neg h4] at h1
            split at h1 <;> omega
        refine ⟨hk, p.b.toNat, by omega, by omega, ?_, h3⟩
        unfold ckAt
        rw [List.getD_eq_getElem?_getD, List.getElem?_eq_getElem (by omega)]
        rfl
      · cases h

def ChPost (vc : Value) (H : Hp) (p : Sy) (w : World) (e : Ending) (w' : World) : Prop :=
  e = .returned (.tuple #[.pointer (if chunkE H p = 0 then ckPtr vc p.b.toNat else none), .int .i64 (chunkE H p)]) ∧ Below w.heap.size w w'

set_option maxRecDepth 100000 in
set_option maxHeartbeats 4000000 in
theorem chunk_any {w0 w : World} {R : Thing} {b : Nat} {vc vf : Value} {vs : List Value} {H : Hp} {olds : List (Value × Nat)} (h : HS pT w0 w R b vc vf vs H olds) (p : Sy) :
    Calls Try.prog 56 #[.pointer (some ⟨b, 0, none⟩), SyV p] w (ChPost vc H p w) := by
  have hck := fun k c hc => HSg.chunk (k := k) (c := c) h hc
  have hrow := HSg.chunks h
  obtain ⟨CA, ccap, rfl, _, hcm⟩ := row_form hrow
  obtain ⟨c0, c1, c2, z, hlt⟩ := HSg.three h
  have hw : Hid (∀ W, Calls Try.prog 69 #[SyV p, .int .i64 2] W fun e w' => e = .returned (.int .i64 (wantE p 2)) ∧ Below W.heap.size W w') := Lib.hid fun W => wanted_any p 2 W
  clear h hrow
  unfold ChPost
  by_cases hp : wantE p 2 = 0
  · have hpk : chunkE H p = if p.b < 0 ∨ (H.chunks.length : Int) ≤ p.b then 43 else if (ckAt H p.b).live = true then 0 else 43 := by
      unfold chunkE
      rw [if_neg (by simpa using hp)]
    rw [hpk]
    rw [hp] at hw
    clear hpk hp
    by_cases h1 : p.b < 0 ∨ (H.chunks.length : Int) ≤ p.b
    · rw [if_pos h1, if_neg (by decide)]
      clear hck
      obtain ⟨a, v, k, q⟩ := p
      simp only [SyV] at hw h1 ⊢
      by_cases h2 : q < 0
      · clear h1
        have t2 : decide (q < 0) = true := by simpa using h2
        go_enter Try.func56, Try.ntmps56
        go_wp2_with fail
        refine (hw.out _).mono ?_
        rintro e w1 ⟨rfl, hb⟩
        obtain ⟨k0, k1, k2, k3, kz, klt⟩ := ((Blk.new w [.int .i64 a, .int .i64 v, .int .i64 k, .int .i64 q] 36).stays hb).four
        have HB := Lib.hid (((Below.refl w.heap.size w).alloc (Nat.le_refl _) _).trans (hb.mono (by simp)))
        have d0 := (HB.out.cell (p := ⟨b, 0, none⟩) hlt).trans c0
        skip
        clear hb c0 c1 c2
        go_wp2_with fail
        go_quiet (fail)
        go_wp2_with fail
        go_ret2
        exact ⟨rfl, below_drewN HB.out _⟩
      · have h3 : (H.chunks.length : Int) ≤ q := by omega
        have t2 : decide (q < 0) = false := by simpa using h2
        have t3 : decide ((H.chunks.length : Int) ≤ q) = true := by simpa using h3
        clear h1
        go_enter Try.func56, Try.ntmps56
        go_wp2_with fail
        refine (hw.out _).mono ?_
        rintro e w1 ⟨rfl, hb⟩
        obtain ⟨k0, k1, k2, k3, kz, klt⟩ := ((Blk.new w [.int .i64 a, .int .i64 v, .int .i64 k, .int .i64 q] 36).stays hb).four
        have HB := Lib.hid (((Below.refl w.heap.size w).alloc (Nat.le_refl _) _).trans (hb.mono (by simp)))
        have d0 := (HB.out.cell (p := ⟨b, 0, none⟩) hlt).trans c0
        skip
        clear hb c0 c1 c2
        go_wp2_with fail
        go_quiet (fail)
        go_wp2_with fail
        go_ret2
        exact ⟨rfl, below_drewN HB.out _⟩
    · rw [if_neg h1]
      obtain ⟨kn, hkn⟩ : ∃ k : Nat, p.b = (k : Int) := ⟨p.b.toNat, by omega⟩
      have hkl : kn < H.chunks.length := by omega
      obtain ⟨gk, capk, vk, hvc, _, hcm2, hgl, hgb, hvk, hcell, hfz⟩ := hck kn _ (List.getElem?_eq_getElem hkl)
      have cl := hcell 3 (by omega)
      have hat : ckAt H p.b = H.chunks[kn] := by
        unfold ckAt
        rw [hkn, Int.toNat_natCast, List.getD_eq_getElem?_getD, List.getElem?_eq_getElem hkl]
        rfl
      have hpn : p.b.toNat = kn := by omega
      rw [hat, hpn]
      clear hck hcell hfz hvk h1 hat hpn
      cases hvc
      change w.cell? ⟨gk, kn * 11 + 3, none⟩ = some (.bool (H.chunks[kn]).live) at cl
      obtain ⟨a, v, k, q⟩ := p
      simp only at hkn
      subst hkn
      simp only [SyV] at hw ⊢
      have t2 : decide ((kn : Int) < 0) = false := by simp
      have t3 : decide ((H.chunks.length : Int) ≤ (kn : Int)) = false := by simp; omega
      have t4 : (kn : Int) < (H.chunks.length : Int) := by omega
      unfold maxLen at hcm
      generalize (H.chunks[kn]).live = lv at *
      cases lv
      · rw [if_neg (by decide), if_neg (by decide)]
        go_enter Try.func56, Try.ntmps56
        go_wp2_with fail
        refine (hw.out _).mono ?_
        rintro e w1 ⟨rfl, hb⟩
        obtain ⟨k0, k1, k2, k3, kz, klt⟩ := ((Blk.new w [.int .i64 a, .int .i64 v, .int .i64 k, .int .i64 (kn : Int)] 36).stays hb).four
        have HB := Lib.hid (((Below.refl w.heap.size w).alloc (Nat.le_refl _) _).trans (hb.mono (by simp)))
        have d0 := (HB.out.cell (p := ⟨b, 0, none⟩) hlt).trans c0
        have dl := (HB.out.cell (p := ⟨gk, kn * 11 + 3, none⟩) hgl).trans cl

        clear hb c0 c1 c2
        go_wp2_with fail
        go_quiet (fail)
        go_wp2_with fail
        go_ret2
        exact ⟨rfl, below_drewN HB.out _⟩
      · rw [if_pos rfl, if_pos rfl]
        go_enter Try.func56, Try.ntmps56
        go_wp2_with fail
        refine (hw.out _).mono ?_
        rintro e w1 ⟨rfl, hb⟩
        obtain ⟨k0, k1, k2, k3, kz, klt⟩ := ((Blk.new w [.int .i64 a, .int .i64 v, .int .i64 k, .int .i64 (kn : Int)] 36).stays hb).four
        have HB := Lib.hid (((Below.refl w.heap.size w).alloc (Nat.le_refl _) _).trans (hb.mono (by simp)))
        have d0 := (HB.out.cell (p := ⟨b, 0, none⟩) hlt).trans c0
        have dl := (HB.out.cell (p := ⟨gk, kn * 11 + 3, none⟩) hgl).trans cl

        clear hb c0 c1 c2
        go_wp2_with fail
        go_quiet (fail)
        go_wp2_with fail
        go_quiet (fail)
        go_wp2_with fail
        go_ret2
        exact ⟨rfl, below_drewN (below_drewN HB.out _) _⟩
  · have hpk : chunkE H p = wantE p 2 := by
      unfold chunkE
      rw [if_pos (by simpa using hp)]
    rw [hpk, if_neg hp]
    have tp : (wantE p 2 != 0) = true := by simpa using hp
    clear hck hpk hp
    generalize wantE p 2 = cd at *
    obtain ⟨a, v, k, q⟩ := p
    simp only [SyV] at hw ⊢
    go_enter Try.func56, Try.ntmps56
    go_wp2_with fail
    refine (hw.out _).mono ?_
    rintro e w1 ⟨rfl, hb⟩
    have HB := Lib.hid (((Below.refl w.heap.size w).alloc (Nat.le_refl _) _).trans (hb.mono (by simp)))
    clear hb
    go_wp2_with fail
    go_ret2
    exact ⟨rfl, HB.out⟩

end Go.Proofs.Ytejnjaikalckiaa
