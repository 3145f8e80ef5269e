/- The contract of one round of the descent. -/
import Derived.Test.YtejnjaikalckiaaDMem
import Derived.Deep.RegionWith
import Derived.IntWalk
import Derived.StillTailTactics
namespace Go.Proofs.Ytejnjaikalckiaa
open Go.RowKit

def RoundPost (E : Env) (s : St) (w : World) (e : Ending) (w' : World) : Prop :=
  e = .returned (.int .i64 (rnd E.fs { s with low := -1 } E.fs.length).low) ∧ DescAt E w' (rnd E.fs { s with low := -1 } E.fs.length) ∧ Below E.base w w'

theorem DescAt.lower {E : Env} {w : World} {s : St} (h : DescAt E w s) (x : Nat) (o : Obj) (q : Nat) (m : Int) (i : Nat) (l : Int) :
    DescAt E ((((w.alloc o).drewN q).setCell ⟨E.gn, x, none⟩ (.int .i64 m)).setCell ⟨E.gb, x, none⟩ (.int .i64 i)).drew ⟨s.num.set x m, s.br.set x i, l⟩ := by
  have g := h.below ((Below.refl _ _).alloc (Nat.le_refl _) o)
  refine ⟨((g.blk.drewN q).far h.n1 _).far h.n2 _, ?_, ?_, by simp [h.ln], by simp [h.lb], fun hn => ?_, h.bd, h.bn, h.bb, h.n1, h.n2, h.n3⟩
  · have := ((g.num.drewN q).put x (.int .i64 m)).far (p := ⟨E.gb, x, none⟩) h.n3 (.int .i64 i)
    rw [intsSet] at this
    exact this
  · have := ((g.br.drewN q).far (p := ⟨E.gn, x, none⟩) (Ne.symm h.n3) (.int .i64 m)).put x (.int .i64 i)
    rw [natsSet] at this
    exact this
  · have hb : Below E.base (w.alloc o) ((((w.alloc o).drewN q).setCell ⟨E.gn, x, none⟩ (.int .i64 m)).setCell ⟨E.gb, x, none⟩ (.int .i64 i)).drew :=
      (((below_drewN (Below.refl _ _) q).setCell (p := ⟨E.gn, x, none⟩) h.bn _).setCell (p := ⟨E.gb, x, none⟩) h.bb _).drew
    exact g.facts.below hb (Nat.le_refl _) hn

theorem DescAt.lowerB {E : Env} {w0 w : World} {s : St} (h : DescAt E w s) (hb : Below E.base w0 w) (x : Nat) (o : Obj) (q : Nat) (m : Int) (i : Nat) :
    Below E.base w0 ((((w.alloc o).drewN q).setCell ⟨E.gn, x, none⟩ (.int .i64 m)).setCell ⟨E.gb, x, none⟩ (.int .i64 i)).drew :=
  ((((below_drewN (hb.alloc (Nat.le_trans h.bd (Nat.le_of_lt h.blk.lt)) o) q)).setCell (p := ⟨E.gn, x, none⟩) h.bn _).setCell (p := ⟨E.gb, x, none⟩) h.bb _).drew

theorem step_yes {s : St} {i x y : Nat} {c : Int} (h : s.num.getD y 0 + c < s.num.getD x 0) : s.step i ⟨x, y, c⟩ = ⟨s.num.set x (s.num.getD y 0 + c), s.br.set x i, x⟩ := by
  unfold St.step St.at
  simp only [Int.toNat_natCast]
  rw [if_pos h]
theorem step_no {s : St} {i x y : Nat} {c : Int} (h : ¬ s.num.getD y 0 + c < s.num.getD x 0) : s.step i ⟨x, y, c⟩ = s := by
  unfold St.step St.at
  simp only [Int.toNat_natCast]
  rw [if_neg h]

set_option maxHeartbeats 2000000 in
theorem round_any (E : Env) (s : St) (w : World) (h : DescAt E w s) (fit : ∀ f ∈ E.fs, FitF E.n f) (hn : E.n ≤ 96) (hm : E.fs.length ≤ 768)
    (hbd : ∀ k v, k ≤ E.fs.length → -1152921504606846976 ≤ (rnd E.fs { s with low := -1 } k).at v ∧ (rnd E.fs { s with low := -1 } k).at v ≤ 0) :
    Calls Try.prog 65 #[.pointer (some ⟨E.d, 0, none⟩)] w (RoundPost E s w) := by
  obtain ⟨base, A, cap, fs, n, d, gn, gb⟩ := E
  simp only at fit hn hm hbd
  have c0 := h.blk.cell 0
  simp only [List.getElem?_cons_zero] at c0
  have HD := Lib.hid h
  have HBD := Lib.hid hbd
  have HFIT := Lib.hid fit
  clear h hbd fit
  go_enter Try.func65, Try.ntmps65
  go_wp2
  go_loopw [3, 12] (fun lo i wr => ∃ k : Nat, k ≤ fs.length ∧ i = .int .i64 k ∧ lo = .int .i64 (rnd fs { s with low := -1 } k).low ∧ DescAt ⟨base, A, cap, fs, n, d, gn, gb⟩ wr (rnd fs { s with low := -1 } k) ∧ Below base w wr) (fun _ i _ => fs.length - (intOf i).toNat)
  case atStart => exact ⟨0, by omega, rfl, rfl, ⟨HD.out.blk, HD.out.num, HD.out.br, HD.out.ln, HD.out.lb, HD.out.facts, HD.out.bd, HD.out.bn, HD.out.bb, HD.out.n1, HD.out.n2, HD.out.n3⟩, Below.refl _ _⟩
  case round =>
    obtain ⟨k, hk, rfl, rfl, hd, hb⟩ := hrel
    have HBK := Lib.hid (HBD.out k)
    have hs' : Hid (∀ h : k < fs.length, rnd fs { s with low := -1 } (k + 1) = (rnd fs { s with low := -1 } k).step k (fs.getD k zeroF)) := Lib.hid fun _ => rfl
    generalize hsk : rnd fs { s with low := -1 } k = sk at *
    have HSK := Lib.hid hsk
    clear hsk
    have HB := Lib.hid hb
    clear hb
    by_cases hlt : k < fs.length
    · obtain ⟨b, off, hA, hbl, hc⟩ := hd.facts (by show 0 < fs.length; omega)
      simp only at hA
      subst hA
      obtain ⟨f, hf⟩ : ∃ f, fs[k]? = some f := ⟨_, List.getElem?_eq_getElem hlt⟩
      have ft := HFIT.out f (List.mem_of_getElem? hf)
      have HS := Lib.hid (by have := hs'.out hlt; rw [getD_of hf] at this; exact this)
      obtain ⟨f0, f1, f2⟩ := hc k f hf
      obtain ⟨x0, xn, y0, yn, cl, cu⟩ := ft
      obtain ⟨fx, fy, fc⟩ := f
      simp only at x0 xn y0 yn cl cu f0 f1 f2 HS
      obtain ⟨x, rfl⟩ := Int.eq_ofNat_of_zero_le x0
      obtain ⟨y, rfl⟩ := Int.eq_ofNat_of_zero_le y0
      have d0 := hd.blk.cell 0
      have d1 := hd.blk.cell 1
      have d2 := hd.blk.cell 2
      simp only [List.getElem?_cons_zero, List.getElem?_cons_succ] at d0 d1 d2
      have hln : sk.num.length = n := hd.ln
      have hlb : sk.br.length = n := hd.lb
      have nx : wr.cell? ⟨gn, x, none⟩ = _ := (hd.num.cell x).trans (intsGet sk.num x (by omega))
      have ny : wr.cell? ⟨gn, y, none⟩ = _ := (hd.num.cell y).trans (intsGet sk.num y (by omega))
      have bx : wr.cell? ⟨gb, x, none⟩ = _ := (hd.br.cell x).trans (natsGet sk.br x (by omega))
      have zn : wr.frozen? ⟨gn, x, none⟩ = false := hd.num.frozen x
      have zb : wr.frozen? ⟨gb, x, none⟩ = false := hd.br.frozen x
      have bndx := HBK.out x (by omega)
      have bndy := HBK.out y (by omega)
      unfold St.at at bndx bndy
      have ld : d < wr.heap.size := hd.blk.lt
      have lgn : gn < wr.heap.size := hd.num.lt
      have lgb : gb < wr.heap.size := hd.br.lt
      have lbd : base ≤ d := hd.bd
      have hbl2 : b < base := hbl
      have hfr : b < wr.heap.size := by omega
      clear hbl
      have HDD := Lib.hid hd
      have HHS := Lib.hid hs'
      clear hd hc hs' hf HBK
      clear hln hlb lbd
      have hxy : (x : Int) < (n : Int) := by omega
      have hyy : (y : Int) < (n : Int) := by omega
      have hs1 : IntKind.i64.wrap (sk.num.getD y 0 + fc) = sk.num.getD y 0 + fc := IntWalk.i64_in _ (by omega)
      generalize hay : sk.num.getD y 0 = ay at *
      generalize hax : sk.num.getD x 0 = ax at *
      have HAY := Lib.hid hay
      have HAX := Lib.hid hax
      clear hay hax
      go_wp2_with fail
      go_quiet (fail)
      clear hs1
      by_cases hl : ay + fc < ax
      · go_wp2_with fail
        go_quiet (fail)
        go_wp2_with fail
        have q1 : ¬ d = gn := HDD.out.n1
        have q2 : ¬ d = gb := HDD.out.n2
        have q3 : ¬ gn = gb := HDD.out.n3
        have q4 : ¬ wr.heap.size = gn := by omega
        have q5 : ¬ wr.heap.size = gb := by omega
        go_region
        go_wp2_with fail
        go_region
        go_wp2_with fail
        go_roundw
        case rel =>
          have e := HS.out.trans (step_yes (i := k) (s := sk) (x := x) (y := y) (c := fc) (by rw [HAY.out, HAX.out]; exact hl))
          rw [HAY.out] at e
          refine ⟨k + 1, by omega, by go_num, by rw [e], ?_, HDD.out.lowerB HB.out x _ _ (ay + fc) k⟩
          rw [e]
          exact HDD.out.lower x _ _ (ay + fc) k x
        case measure => simp [intOf]; omega
      · go_wp2_with fail
        go_quiet (fail)
        go_wp2_with fail
        go_roundw
        case rel =>
          have e := HS.out.trans (step_no (i := k) (s := sk) (x := x) (y := y) (c := fc) (by rw [HAY.out, HAX.out]; omega))
          refine ⟨k + 1, by omega, by go_num, by rw [e], ?_, below_drewN (HB.out.alloc (Nat.le_trans HDD.out.bd (Nat.le_of_lt ld)) _) _⟩
          rw [e]
          exact HDD.out.below (below_drewN ((Below.refl _ _).alloc (Nat.le_refl _) _) _)
        case measure => simp [intOf]; omega
    · have hke : k = fs.length := by omega
      subst hke
      go_wp2
      go_ret
      refine ⟨?_, ?_, HB.out⟩
      · rw [HSK.out]; rfl
      · rw [HSK.out]; exact hd

end Go.Proofs.Ytejnjaikalckiaa
