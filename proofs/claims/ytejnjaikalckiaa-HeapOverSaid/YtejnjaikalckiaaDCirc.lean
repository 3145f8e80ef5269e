/- The contract of the descent's circle. -/
import Derived.Test.YtejnjaikalckiaaDSolve
import Derived.Deep.MidRow
namespace Go.Proofs.Ytejnjaikalckiaa
open Go.RowKit

def CirclePost (E : Env) (w : World) (e : Ending) (w' : World) : Prop :=
  ∃ v c, e = .returned v ∧ IsCircle E.fs c ∧ c.length ≤ E.n ∧ w'.ownsRow w.heap.size 3 1 v c.length (nats c) ∧ Below w.heap.size w w'

theorem grown_of_below {a w : World} (h : Below a.heap.size a w) (row : Option Nat) : a.grownBy w row := ⟨h.os, h.tape, h.output, h.size, fun i hi _ => h.block i hi⟩
theorem own_below {a w : World} {base : Nat} {e : TypeId} {size n : Nat} {v : Value} {xs : List Value} (h : a.ownsRow base e size v n xs) (hb : Below a.heap.size a w) : w.ownsRow base e size v n xs := by
  refine h.kept (grown_of_below hb none) ?_
  cases v.ownBlock
  · exact .inl rfl
  · exact .inr (by simp)

theorem ring_succ (fs : List F) (s : St) (u k : Nat) : nats (ring fs s u (k + 1)) = nats (ring fs s u k) ++ [.int .i64 (s.br.getD (it (par fs s.br) k u) 0 : Nat)] := by
  unfold nats ring
  rw [List.range_succ, List.map_append, List.map_append]
  rfl
theorem ring_one (fs : List F) (s : St) (u : Nat) : nats (ring fs s u 1) = [.int .i64 (s.br.getD u 0 : Nat)] := rfl
theorem ring_len (fs : List F) (s : St) (u k : Nat) : (ring fs s u k).length = k := by simp [ring]

theorem mem_getD {fs : List F} {k : Nat} (h : k < fs.length) : fs.getD k zeroF ∈ fs := by
  rw [List.getD_eq_getElem?_getD, List.getElem?_eq_getElem h]
  exact List.getElem_mem h

def sliceLen : Value → Nat
  | .slice _ n _ => n
  | _ => 0

set_option maxHeartbeats 2000000 in
theorem circle_any (E : Env) (s : St) (v p : Nat) (w : World) (h : DescAt E w s) (fit : ∀ f ∈ E.fs, FitF E.n f) (hn : E.n ≤ 96) (hn0 : 1 ≤ E.n) (hm : E.fs.length ≤ 768)
    (hk : ∀ k, k < E.n → it (par E.fs s.br) k v < E.n ∧ s.br.getD (it (par E.fs s.br) k v) 0 < E.fs.length) (hl : Loops E.fs E.n s (it (par E.fs s.br) E.n v) p) :
    Calls Try.prog 67 #[.pointer (some ⟨E.d, 0, none⟩), .int .i64 v] w (CirclePost E w) := by
  have HY : Hid (∀ j, j < E.fs.length → 0 ≤ (E.fs.getD j zeroF).y) := Lib.hid fun j hj => (fit _ (mem_getD hj)).y0
  have HFIT := Lib.hid fit
  have HK := Lib.hid hk
  have HL := Lib.hid hl
  have HD := Lib.hid h
  have d1 := h.blk.cell 1
  have d2 := h.blk.cell 2
  simp only [List.getElem?_cons_zero, List.getElem?_cons_succ] at d1 d2
  have ld : E.d < w.heap.size := h.blk.lt
  have lg : E.gb < w.heap.size := h.br.lt
  clear h hk hl fit
  go_enter Try.func67, Try.ntmps67
  go_wp2
  go_loopw [5, 14] (fun f i wr => ∃ k : Nat, k ≤ E.n ∧ i = .int .i64 k ∧ f = .int .i64 (it (par E.fs s.br) k v) ∧ Below w.heap.size w wr) (fun _ i _ => E.n - (intOf i).toNat)
  case atStart => exact ⟨0, by omega, rfl, rfl, Below.refl _ _⟩
  case round =>
    obtain ⟨k, hkn, rfl, rfl, hb⟩ := hrel
    have HB := Lib.hid hb
    clear hb
    by_cases hlt : k < E.n
    · go_wp2_with fail
      refine (behind_any E s (it (par E.fs s.br) k v) _ (HD.out.below HB.out) (HK.out k hlt).1 (HK.out k hlt).2 hn hm (HY.out _ (HK.out k hlt).2)).mono ?_
      rintro e w1 ⟨rfl, hb1⟩
      have HB1 := Lib.hid (HB.out.trans (hb1.mono HB.out.size))
      clear hb1
      go_wp2
      go_roundw
      case rel => exact ⟨k + 1, by omega, by go_num, rfl, HB1.out⟩
      case measure => simp [intOf]; omega
    · have hke : k = E.n := by omega
      subst hke
      have hu := HL.out
      generalize hug : it (par E.fs s.br) E.n v = u at *
      have HUG := Lib.hid hug
      clear hug
      have u0 : u < E.n := hu.lt 0
      have ub := hu.br 0
      have HU := Lib.hid hu
      clear hu HL
      change s.br.getD u 0 < E.fs.length at ub
      have e2 : wr.cell? ⟨E.d, 2, none⟩ = _ := (HB.out.cell (p := ⟨E.d, 2, none⟩) ld).trans d2
      have eb : wr.cell? ⟨E.gb, u, none⟩ = some (.int .i64 (s.br.getD u 0 : Nat)) := (HB.out.cell (p := ⟨E.gb, u, none⟩) lg).trans ((HD.out.br.cell u).trans (natsGet s.br u (by rw [HD.out.lb]; exact u0)))
      have hu2 : (u : Int) < (E.n : Int) := by omega
      have hbs := HB.out.size
      have HJ : ∃ j : Nat, Hid (s.br.getD u 0 = j) ∧ wr.cell? ⟨E.gb, u, none⟩ = some (.int .i64 j) := ⟨_, Lib.hid rfl, eb⟩
      clear eb
      obtain ⟨j, HJ, eb⟩ := HJ
      go_wp2_with fail
      refine (behind_any E s u _ (HD.out.below (HB.out.alloc hbs _)) u0 ub hn hm (HY.out _ ub)).mono ?_
      rintro e w1 ⟨rfl, hb1⟩
      have HB1 := Lib.hid ((HB.out.alloc hbs (.cells #[.int .i64 j] 3)).trans (hb1.mono (by simp; omega)))
      have HO := Lib.hid (own_below (World.ownsRow_lit (base := w.heap.size) (e := 3) (size := 1) wr #[.int .i64 j] 1 hbs (by decide) rfl) hb1)
      clear hb1
      go_wp2
      go_loopg [6, 7] (p - 1) (fun g o a wq => ∃ k : Nat, 1 ≤ k ∧ k ≤ p ∧ p ≤ k + g ∧ a = .int .i64 (it (par E.fs s.br) k u) ∧ wq.ownsRow w.heap.size 3 1 o k (nats (ring E.fs s u k)) ∧ Below w.heap.size w wq)
      case atStart => exact ⟨1, by omega, HU.out.p1, by have := HU.out.p1; omega, rfl, by rw [ring_one, HJ.out]; exact HO.out, HB1.out⟩
      case round =>
        obtain ⟨k, hk1, hkp, hkg, rfl, hown, hbq⟩ := hrel
        have hsz := hbq.size
        by_cases hat : it (par E.fs s.br) k u = u
        · have t1 : (((it (par E.fs s.br) k u : Nat) : Int) != (u : Int)) = false := by rw [hat]; simp
          have HC := Lib.hid (HU.out.circle HFIT.out hk1 hat)
          have HO2 := Lib.hid hown
          have HB2 := Lib.hid hbq
          clear hat hown hbq
          generalize it (par E.fs s.br) k u = a at *
          go_wp2
          go_ret
          exact ⟨_, ring E.fs s u k, rfl, HC.out, by rw [ring_len]; have := HU.out.pn; omega, by rw [ring_len]; exact HO2.out, HB2.out⟩
        · have t1 : (((it (par E.fs s.br) k u : Nat) : Int) != (u : Int)) = true := by simp; omega
          have hkp2 : k < p := by
            rcases Nat.lt_or_ge k p with h1 | h1
            · exact h1
            · have : k = p := by omega
              subst this
              exact absurd HU.out.back hat
          have ab := HU.out.br k
          have al := HU.out.lt k
          have HNX : Hid (par E.fs s.br (it (par E.fs s.br) k u) = it (par E.fs s.br) (k + 1) u) := Lib.hid rfl
          obtain ⟨j2, HJ2, eb2⟩ : ∃ j : Nat, Hid (s.br.getD (it (par E.fs s.br) k u) 0 = j) ∧ wr.cell? ⟨E.gb, it (par E.fs s.br) k u, none⟩ = some (.int .i64 j) :=
            ⟨_, Lib.hid rfl, (hbq.cell (p := ⟨E.gb, _, none⟩) lg).trans ((HD.out.br.cell _).trans (natsGet s.br _ (by rw [HD.out.lb]; exact al)))⟩
          have e3 : wr.cell? ⟨E.d, 2, none⟩ = _ := (hbq.cell (p := ⟨E.d, 2, none⟩) ld).trans d2
          have HRS := Lib.hid (ring_succ E.fs s u k)
          have HO2 := Lib.hid hown
          have HB2 := Lib.hid hbq
          clear hat hown hbq
          generalize hga : it (par E.fs s.br) k u = a at *
          clear hga
          have al2 : (a : Int) < (E.n : Int) := by omega
          obtain ⟨i0, hi, hz0, hz1, hz2⟩ := info_parts Try.infoInt
          go_wp2_with (at_builtin; refine wpList_append_own _ rfl (.tmp 37) (.tmp 45) 100 rfl w.heap.size 3 i0 _ 1 8 Try.underlying100 hi hz0 hz1 hz2 rfl (by decide) _ _ _ rfl (HO2.out.alloc _) ⟨wr.heap.size, 0, none⟩ 1 1 [.int .i64 j2] rfl rfl ?c1 ?c2 ?c3 ?c4 ?c5 ?_)
          case c1 =>
            intro j u hj
            rw [Addr.add_mid, Nat.zero_add, cell_of_row _ _ _ _ _ _ (heap_alloc_new wr _)]
            simpa using hj
          case c2 => intro u hu; simp at hu; subst hu; rfl
          case c3 => have := HU.out.pn; unfold maxLen; omega
          case c4 => have := HU.out.pn; omega
          case c5 => simp; omega
          intro v' w2 hown2 hgrow2 _
          have HO3 := Lib.hid hown2
          have HB3 := Lib.hid ((HB2.out.alloc hsz _).grown hgrow2 (by simp; omega) (fun j hj => (HO2.out.lt j hj).1))
          clear hown2 hgrow2
          go_wp2_with fail
          refine (behind_any E s a _ (HD.out.below HB3.out) al ab hn hm (HY.out _ ab)).mono ?_
          rintro e w3 ⟨rfl, hb3⟩
          have HO4 := Lib.hid (own_below HO3.out hb3)
          have HB4 := Lib.hid (HB3.out.trans (hb3.mono HB3.out.size))
          clear hb3
          rw [HNX.out]
          go_wp2
          go_roundg (gk - 1)
          case measure => omega
          case rel => exact ⟨k + 1, by omega, by omega, by omega, rfl, by rw [HRS.out, HJ2.out]; exact HO4.out, HB4.out⟩

end Go.Proofs.Ytejnjaikalckiaa
