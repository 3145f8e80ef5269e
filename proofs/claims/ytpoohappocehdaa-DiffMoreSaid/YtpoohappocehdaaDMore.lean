/- Proved here: for every number, two facts and list of facts that lychgatelaw04.DiffMore is called with, in every memory, the call returns true and its arguments read as before. No conditions. -/
import Derived.Test.YtpoohappocehdaaDApp
import Derived.Deep.RegionHeld3
namespace Go.Proofs.Ytpoohappocehdaa
open Go.ChangeShapes Go.WideShapes Go.ChangeAt Go.RowKit

theorem refuse_perm {n : Int} {a b : List F} (hl : a.length = b.length) (hm : ∀ f, f ∈ a ↔ f ∈ b) : refuseB n a = refuseB n b := by
  have e : a.any (oddB n) = b.any (oddB n) := by
    rw [Bool.eq_iff_iff, List.any_eq_true, List.any_eq_true]
    constructor
    · rintro ⟨x, hx, ho⟩; exact ⟨x, (hm x).1 hx, ho⟩
    · rintro ⟨x, hx, ho⟩; exact ⟨x, (hm x).2 hx, ho⟩
  unfold refuseB
  rw [e, hl]
theorem ent_perm {n : Int} {g : F} {a b : List F} (hl : a.length = b.length) (hm : ∀ f, f ∈ a ↔ f ∈ b) : entB n g a = entB n g b := by
  unfold entB
  rw [refuse_perm (a := a ++ [g]) (b := b ++ [g]) (by simp [hl]) (fun f => by simp [hm])]
theorem Ent.more {a b : List F} {g : F} (h : Ent a g) (hm : ∀ f, f ∈ a → f ∈ b) : Ent b g := fun v hv => h v fun f hf => hv f (hm f hf)

theorem okWide_arr {P : Program} {w : World} {r : Reach} {base n : Nat} {t e : TypeId} {v : Value} (ht : P.underlying t = some (.array n e)) (h : Value.okWide P w r base t v) : ∃ cs, v = .agg cs ∧ cs.size = P.cellsOf t := by
  simp only [Value.okWide, ht] at h
  obtain ⟨cs, h1, h2, _⟩ := h
  exact ⟨cs, h1, h2⟩
theorem cellsTwo : Try.prog.cellsOf 45 = 6 := by kernel_rfl
theorem six {cs : List Value} (h : cs.length = 6) : ∃ a b c d e f, cs = [a, b, c, d, e, f] := by
  match cs, h with
  | [a, b, c, d, e, f], _ => exact ⟨a, b, c, d, e, f, rfl⟩

theorem open_two {H : Type} {enc : TypeId × Value → H} {W : World} {base : Nat} {v : Value} {d : DataW H} {p : List MemPlace} (hval : Value.okWide Try.prog W .any base 45 v)
    (h : DataW.Trod enc Try.prog W 0 (fun _ => true) true 45 v d p) : ∃ g q : F, v = .agg #[.int .i64 g.x, .int .i64 g.y, .int .i64 g.c, .int .i64 q.x, .int .i64 q.y, .int .i64 q.c] := by
  obtain ⟨cs, rfl, hsz⟩ := okWide_arr Try.underlying45 hval
  obtain ⟨fuel, hf⟩ := h
  obtain ⟨l⟩ := cs
  rw [cellsTwo] at hsz
  obtain ⟨c0, c1, c2, c3, c4, c5, rfl⟩ := six (show l.length = 6 from hsz)
  obtain ⟨xs, m, _, _, _, hxl, hel⟩ := DataW.trod_array Try.underlying45 hf
  have h0 := hel 0 (by omega)
  have h1 := hel 1 (by omega)
  rw [List.getElem?_eq_getElem (show 0 < xs.length by omega), cellsLeq] at h0
  rw [List.getElem?_eq_getElem (show 1 < xs.length by omega), cellsLeq] at h1
  obtain ⟨g, hg⟩ := fact_of_trod h0
  obtain ⟨q, hq⟩ := fact_of_trod h1
  simp [Value.cells] at hg hq
  obtain ⟨rfl, rfl, rfl⟩ := hg
  obtain ⟨rfl, rfl, rfl⟩ := hq
  exact ⟨g, q, rfl⟩

theorem more_contract {H : Type} {enc : TypeId × Value → H} {f : FuncId} {fn : Func} {sp : ChangeSpec} {ts : List TypeId} (hp : fn.params = #[3, 45, 22]) (hr : fn.resultTypes = #[4]) (hvars : sp.vars = [])
    (hfn : ∀ d1 d2 d3 : DataW H, sp.fn H [d1, d2, d3] = { results := [.lit (.bool true)], args := [d1, d2, d3] })
    (walk : ∀ (n : Int) (g q : F) (A : Option Addr) (cap : Nat) (fs : List F) (w : World), FactsAt w w.heap.size A fs → fs.length ≤ cap → cap ≤ maxLen → cap * 24 ≤ 140737488351232 →
      Calls Try.prog f #[.int .i64 n, .agg #[.int .i64 g.x, .int .i64 g.y, .int .i64 g.c, .int .i64 q.x, .int .i64 q.y, .int .i64 q.c], .slice A fs.length cap] w fun e w' => e = .returned (.bool true) ∧ Below w.heap.size w w')
    (W : World) (base : Nat) (args : Array Value) (ds gs : List (DataW H)) (before : List MemPlace)
    (hval : ∀ (j : Nat) t v, fn.params[j]? = some t → args[j]? = some v → Value.okWide Try.prog W .any base t v)
    (hW : DataW.Whole enc Try.prog fn.params.toList sp.vars false W args.toList ds gs before) (hreach : (DataW.weightsEach Try.prog (fn.params.toList ++ ts) (ds ++ gs)).all (· ≤ reachBytes) = true) :
    Calls Try.prog f args W fun e W' => ∃ v, e = .returned v ∧ sp.post enc Try.prog fn false true false false W args v W' := by
  have hW' := hW
  obtain ⟨p, q, hA0, hV, rfl, hfz, hnd⟩ := hW
  rw [hvars] at hV
  have hA : DataW.TrodAll enc Try.prog W 0 (fun _ => true) true fn.params.toList args.toList ds p := hA0
  rw [hp] at hA hval hreach
  obtain ⟨v0, vs0, d0, ds0, p0, q0, hargs, rfl, rfl, h0, r0⟩ := trodAll_cons hA
  obtain ⟨v1, vs1, d1, ds1, p1, q1, hargs1, rfl, rfl, h1, r1⟩ := trodAll_cons r0
  obtain ⟨v2, vs2, d2, ds2, p2, q2, hargs2, rfl, rfl, h2, r2⟩ := trodAll_cons r1
  obtain ⟨rfl, rfl, rfl⟩ := trodAll_nil r2
  obtain rfl : args = #[v0, v1, v2] := by cases args; simp_all
  obtain ⟨rfl, rfl⟩ := trodVars_none hV
  obtain ⟨n, rfl, _, _, _⟩ := open_int Try.underlying3 (hval 0 3 v0 rfl rfl) h0
  obtain ⟨g, q, rfl⟩ := open_two (hval 1 45 v1 rfl rfl) h1
  obtain ⟨A, cap, fs, rfl, hfs, hcap, hcm, hd⟩ := open_facts (hval 2 22 v2 rfl rfl) h2
  have hby : cap * 24 ≤ 140737488351232 := by
    rcases hd with rfl | ⟨es, sp, rfl, rfl⟩
    · omega
    · have := sized_slice hreach (j := 2) (t := 22) (elems := es) (spare := sp) rfl rfl Try.underlying22
      rw [bytesLeq] at this
      exact this
  clear hA0
  refine (walk n g q A cap fs W hfs hcap hcm hby).mono fun e W' ⟨he, hb⟩ => ⟨_, he, ?_⟩
  refine close_post hr hvars (hfn _ _ _) ?_ hW' hb
  rw [hp]
  intro t ht
  have hm : t = 3 ∨ t = 45 ∨ t = 22 := by simpa using ht
  rcases hm with rfl | rfl | rfl
  · exact ⟨by kernel_rfl, of_decide_eq_true (by kernel_rfl)⟩
  · exact ⟨by kernel_rfl, of_decide_eq_true (by kernel_rfl)⟩
  · exact ⟨by kernel_rfl, of_decide_eq_true (by kernel_rfl)⟩

theorem own_drew {w : World} {base : Nat} {e : TypeId} {size n : Nat} {v : Value} {xs : List Value} (h : w.ownsRow base e size v n xs) : w.drew.ownsRow base e size v n xs := h
theorem FactsAt.drew {w : World} {B : Nat} {A : Option Addr} {fs : List F} (h : FactsAt w B A fs) : FactsAt w.drew B A fs := h
theorem grown_drew {a w : World} {row : Option Nat} (h : a.drew.grownBy w row) : a.grownBy w row := ⟨h.os, h.tape, h.output, h.size, h.block⟩

/- Two facts in blocks of their own. -/
def TwoAt (w W : World) (g q : F) (a b : Value) : Prop :=
  ∃ ga gb, a = .pointer (some ⟨ga, 0, none⟩) ∧ b = .pointer (some ⟨gb, 0, none⟩) ∧ w.heap.size < ga ∧ w.heap.size < gb ∧ Blk W ga (fCells g) 37 ∧ Blk W gb (fCells q) 37 ∧ Below w.heap.size w W

/- The facts from r on, backwards. -/
def revFrom (fs : List F) (r : Nat) : List F := (fs.drop r).reverse
theorem rev_end (fs : List F) : revFrom fs fs.length = [] := by simp [revFrom]
theorem rev_step (fs : List F) (r : Nat) (f : F) (h : fs[r]? = some f) : revFrom fs r = revFrom fs (r + 1) ++ [f] := by
  unfold revFrom
  have hr : r < fs.length := (List.getElem?_eq_some_iff.1 h).1
  have e : fs[r] = f := (List.getElem?_eq_some_iff.1 h).2
  rw [List.drop_eq_getElem_cons hr, e]
  simp
theorem rev_len (fs : List F) (r : Nat) : (revFrom fs r).length = fs.length - r := by simp [revFrom]
theorem rev_mem (fs : List F) (f : F) : f ∈ revFrom fs 0 ↔ f ∈ fs := by simp [revFrom]

theorem pick_min (c len : Nat) : ∃ N : Nat, (if (c : Int) < (len : Int) then (c : Int) else (len : Int)) = (N : Int) ∧ N ≤ c ∧ N ≤ len := by
  by_cases h : c < len
  · exact ⟨c, by rw [if_pos (by omega)], by omega, by omega⟩
  · exact ⟨len, by rw [if_neg (by omega)], by omega, by omega⟩

theorem same_bool {a b : Bool} {p : Prop} (ha : a = true → p) (hb : b = true → p) (h : p → (a = true ↔ b = true)) : b = a := by
  cases a
  · cases b
    · rfl
    · exact absurd ((h (hb rfl)).2 rfl) (by simp)
  · exact (h (ha rfl)).1 rfl

theorem FactsAt.take {w : World} {B : Nat} {A : Option Addr} {fs : List F} (h : FactsAt w B A fs) (m : Nat) : FactsAt w B A (fs.take m) := fun hn => by
  rw [List.length_take] at hn
  obtain ⟨b, off, e, hlt, hc⟩ := h (by omega)
  refine ⟨b, off, e, hlt, fun i f hf => hc i f ?_⟩
  rw [List.getElem?_take] at hf
  split at hf
  · exact hf
  · cases hf

def MorePost (n : Int) (g : F) (us : List F) (w W : World) (c gq : Value) : Prop :=
  ∃ rc, c = .bool rc ∧ gq = .int .i64 (entB n g us) ∧ (entB n g us = 0 → (rc = true ↔ Ent us g)) ∧ Below w.heap.size w W

theorem entails_own (n : Int) (g : F) (A : Option Addr) (cap k : Nat) (fs : List F) (w : World) {base : Nat} (hk : k = fs.length) (h : w.ownsRow base 37 3 (.slice A k cap) k (factCells fs)) :
    Calls Try.prog 16 #[.int .i64 n, .agg #[.int .i64 g.x, .int .i64 g.y, .int .i64 g.c], .slice A k cap] w (EntOne n g fs w) := by
  subst hk
  obtain ⟨A', cap', hv, h1, h2⟩ := own_slice h
  cases hv
  exact entails_any n g A cap fs w (FactsAt.of_own h) h1 h2

set_option maxHeartbeats 8000000 in
set_option maxRecDepth 100000 in
theorem diffMore_walk (n : Int) (g q : F) (A : Option Addr) (cap : Nat) (fs : List F) (w : World) (hfs : FactsAt w w.heap.size A fs) (hcap : fs.length ≤ cap) (hcm : cap ≤ maxLen) (hby : cap * 24 ≤ 140737488351232) :
    Calls Try.prog 8 #[.int .i64 n, .agg #[.int .i64 g.x, .int .i64 g.y, .int .i64 g.c, .int .i64 q.x, .int .i64 q.y, .int .i64 q.c], .slice A fs.length cap] w fun e w' => e = .returned (.bool true) ∧ Below w.heap.size w w' := by
  have HF := Lib.hid hfs
  clear hfs
  go_enter Try.func8, Try.ntmps8
  go_upto_region 1 with fail
  go_cut [7, 8] (fun a b W => TwoAt w W g q a b)
  case first =>
    go_region
    · go_wp2_with fail
      go_meet
      obtain ⟨_, b1, b2⟩ := three_blocks w [.int .i64 g.x, .int .i64 g.y, .int .i64 g.c, .int .i64 q.x, .int .i64 q.y, .int .i64 q.c] (fCells g) (fCells q) 45 37 37
      exact ⟨w.heap.size + 1, w.heap.size + 1 + 1, rfl, rfl, by omega, by omega, b1, b2, three_below w _ _ _⟩
    · go_wp2_with fail
      go_meet
      obtain ⟨_, b1, b2⟩ := three_blocks w [.int .i64 g.x, .int .i64 g.y, .int .i64 g.c, .int .i64 q.x, .int .i64 q.y, .int .i64 q.c] (fCells q) (fCells g) 45 37 37
      exact ⟨w.heap.size + 1 + 1, w.heap.size + 1, rfl, rfl, by omega, by omega, b2, b1, three_below w _ _ _⟩
  case rest =>
    obtain ⟨ga, gb, rfl, rfl, hga, hgb, hba, hbb, hb0⟩ := hcut
    have a0 := hba.cell 0
    have a1 := hba.cell 1
    have a2 := hba.cell 2
    simp only [fCells, List.getElem?_cons_zero, List.getElem?_cons_succ] at a0 a1 a2
    have HA := Lib.hid hba
    have HBQ := Lib.hid hbb
    have HB0 := Lib.hid hb0
    clear hba hbb hb0
    go_wp2_with fail
    refine (entails_any n g A cap fs _ ((HF.out.below HB0.out (Nat.le_refl _)).more HB0.out.size) hcap hcm).mono ?_
    rintro e w1 ⟨ra, rfl, hra0, hra1, hb1⟩
    have HA1 := Lib.hid (HA.out.below hb1 HA.out.lt)
    have HQ1 := Lib.hid (HBQ.out.below hb1 HBQ.out.lt)
    have HB1 := Lib.hid (HB0.out.trans (hb1.mono HB0.out.size))
    have HRA0 := Lib.hid hra0
    have HRA1 := Lib.hid hra1
    have hw1 : w.heap.size ≤ w1.heap.size := HB1.out.size
    clear hra0 hra1 hb1 a0 a1 a2
    obtain ⟨eE, HE⟩ : ∃ eE, Hid (entB n g fs = eE) := ⟨_, Lib.hid rfl⟩
    rw [HE.out]
    go_wp2_with fail
    go_loopg [11, 12] fs.length (fun gk v i wr => ∃ r : Nat, r ≤ fs.length ∧ r ≤ gk ∧ i = .int .i64 ((r : Int) - 1) ∧ wr.ownsRow w1.heap.size 37 3 v (revFrom fs r).length (factCells (revFrom fs r)) ∧ Below w1.heap.size w1 wr)
    case atStart => exact ⟨fs.length, Nat.le_refl _, Nat.le_refl _, rfl, by rw [rev_end]; exact World.ownsRow_nil _ _ _ _, Below.refl _ _⟩
    case round =>
      obtain ⟨r, hr, hrg, hi, hown, hb⟩ := hrel
      rcases r with _ | r
      · obtain rfl : u12 = .int .i64 (-1) := hi
        obtain ⟨A2, cap2, rfl, hcap2, hcm2⟩ := own_slice hown
        have HO := Lib.hid hown
        have HA2 := Lib.hid (HA1.out.below hb HA1.out.lt)
        have HQ2 := Lib.hid (HQ1.out.below hb HQ1.out.lt)
        have HB2 := Lib.hid (HB1.out.trans (hb.mono hw1))
        have HT := Lib.hid (rev_mem fs)
        have hll := rev_len fs 0
        have HET := Lib.hid (ent_perm (n := n) (g := g) (a := revFrom fs 0) (b := fs) (by rw [hll]; omega) (rev_mem fs))
        have hll2 : (revFrom fs 0).length ≤ fs.length := by omega
        have hll3 : fs.length ≤ (revFrom fs 0).length := by omega
        generalize revFrom fs 0 = ts at *
        have hw2 := hb.size
        have a0 := HA2.out.cell 0
        have a1 := HA2.out.cell 1
        have a2 := HA2.out.cell 2
        simp only [fCells, List.getElem?_cons_zero, List.getElem?_cons_succ] at a0 a1 a2
        clear hown hb hll
        go_wp2_with fail
        refine (entails_any n g A2 cap2 ts _ (FactsAt.of_own HO.out) hcap2 hcm2).mono ?_
        rintro e w2 ⟨rb, rfl, hrb0, hrb1, hb2⟩
        rw [HET.out, HE.out] at hrb0 hrb1 ⊢
        have hra0 := HRA0.out
        have hra1 := HRA1.out
        rw [HE.out] at hra0 hra1
        obtain rfl : rb = ra := same_bool hra0 hrb0 (fun h => by
          rw [hra1 h, hrb1 h]
          exact ⟨fun h2 => h2.more fun f hf => (HT.out f).2 hf, fun h2 => h2.more fun f hf => (HT.out f).1 hf⟩)
        have HA3 := Lib.hid (HA2.out.below hb2 HA2.out.lt)
        have HQ3 := Lib.hid (HQ2.out.below hb2 HQ2.out.lt)
        have HB3 := Lib.hid (HB2.out.trans (hb2.mono HB2.out.size))
        have HO3 := Lib.hid (own_below HO.out hb2)
        have HRA := Lib.hid hra1
        have hw3 : w.heap.size ≤ w2.heap.size := HB3.out.size
        clear hra0 hra1 hrb0 hrb1 a0 a1 a2
        have hb2s := hb2.size
        clear hb2
        obtain ⟨M, hM, hM1, hM2⟩ := pick_min 3 fs.length
        simp only [Int.cast_ofNat_Int] at hM
        have HFM : Hid (FactsAt w w.heap.size A (fs.take M)) := Lib.hid (HF.out.take M)
        have HML : Hid (M = (fs.take M).length) := Lib.hid (by rw [List.length_take]; omega)
        have a0 := HA3.out.cell 0
        have a1 := HA3.out.cell 1
        have a2 := HA3.out.cell 2
        have b0 := HQ3.out.cell 0
        have b1 := HQ3.out.cell 1
        have b2 := HQ3.out.cell 2
        simp only [fCells, List.getElem?_cons_zero, List.getElem?_cons_succ] at a0 a1 a2 b0 b1 b2
        have hcap3 : M ≤ cap := by omega
        have hcm' := hcm
        unfold maxLen at hcm'
        have hga1 : ga < w1.heap.size := HA1.out.lt
        have hw12 : w1.heap.size ≤ w2.heap.size := by omega
        have hga2 : ga < w2.heap.size := HA3.out.lt
        have hgb1 : gb < w1.heap.size := HQ1.out.lt
        have hgb2 : gb < w2.heap.size := HQ3.out.lt
        obtain ⟨us, HUS⟩ : ∃ us, Hid (ts ++ [q] ++ fs.take M = us) := ⟨_, Lib.hid rfl⟩
        obtain ⟨i0, I⟩ := Try.leqInfo
        go_upto_region 9 with fail
        go_cut [15, 16] (fun c gq W => MorePost n g us w W c gq)
        case first =>
          go_region_held3 (fun w' => w'.cell? ⟨ga, 0, none⟩ = some (.int .i64 g.x) ∧ w'.cell? ⟨ga, 1, none⟩ = some (.int .i64 g.y) ∧ w'.cell? ⟨ga, 2, none⟩ = some (.int .i64 g.c) ∧ w'.cell? ⟨gb, 0, none⟩ = some (.int .i64 q.x) ∧ w'.cell? ⟨gb, 1, none⟩ = some (.int .i64 q.y) ∧ w'.cell? ⟨gb, 2, none⟩ = some (.int .i64 q.c))
            (first | go_keep | exact ⟨(HBX.out.cell (p := ⟨ga, 0, none⟩) hga1).trans a0, (HBX.out.cell (p := ⟨ga, 1, none⟩) hga1).trans a1, (HBX.out.cell (p := ⟨ga, 2, none⟩) hga1).trans a2, (HBX.out.cell (p := ⟨gb, 0, none⟩) hgb1).trans b0, (HBX.out.cell (p := ⟨gb, 1, none⟩) hgb1).trans b1, (HBX.out.cell (p := ⟨gb, 2, none⟩) hgb1).trans b2⟩ | exact ⟨(HBY.out.cell (p := ⟨ga, 0, none⟩) hga1).trans a0, (HBY.out.cell (p := ⟨ga, 1, none⟩) hga1).trans a1, (HBY.out.cell (p := ⟨ga, 2, none⟩) hga1).trans a2, (HBY.out.cell (p := ⟨gb, 0, none⟩) hgb1).trans b0, (HBY.out.cell (p := ⟨gb, 1, none⟩) hgb1).trans b1, (HBY.out.cell (p := ⟨gb, 2, none⟩) hgb1).trans b2⟩ | exact ⟨(HBZ.out.cell (p := ⟨ga, 0, none⟩) hga1).trans a0, (HBZ.out.cell (p := ⟨ga, 1, none⟩) hga1).trans a1, (HBZ.out.cell (p := ⟨ga, 2, none⟩) hga1).trans a2, (HBZ.out.cell (p := ⟨gb, 0, none⟩) hgb1).trans b0, (HBZ.out.cell (p := ⟨gb, 1, none⟩) hgb1).trans b1, (HBZ.out.cell (p := ⟨gb, 2, none⟩) hgb1).trans b2⟩)
            (first
            | (refine step_append_facts rfl (.tmp 52) (.tmp 54) rfl I rfl (own_drew (HO3.out.alloc _)) rfl (FactsAt.lit w2 q _ _ rfl).drew rfl (by unfold maxLen; omega) (by omega) (by simp; omega) ?_; intro A3 c3 w3 hown3 hgrow3; have HO4 := Lib.hid hown3; have HBX := Lib.hid (((Below.refl w1.heap.size w2).alloc hw12 _).grown (grown_drew hgrow3) (by simp; omega) (fun j hj => (HO3.out.lt j hj).1)); have hw3x : w2.heap.size ≤ w3.heap.size := HBX.out.size; clear hown3 hgrow3)
            | (refine step_append_facts rfl (.tmp 55) (.tmp 60) rfl I rfl HO4.out rfl ((HFM.out.below (HB3.out.trans (HBX.out.mono hw1)) (Nat.le_refl _))) HML.out (by unfold maxLen; omega) (by omega) (by omega) ?_; intro A4 c4 w4 hown4 hgrow4; have HO5 := Lib.hid hown4; have HBY := Lib.hid (HBX.out.grown hgrow4 (by omega) (fun j hj => (HO4.out.lt j hj).1)); have hw4x : w2.heap.size ≤ w4.heap.size := HBY.out.size; clear hown4 hgrow4)
            | (go_simp; go_at_call 16; refine (entails_own n g A4 c4 _ us _ (by rw [← HUS.out, List.length_append, ← HML.out]; simp) (by rw [← HUS.out]; exact HO5.out)).mono ?_; rintro e w5 ⟨rc, rfl, _, hrc, hb5⟩; have HRC := Lib.hid hrc; have HBZ := Lib.hid (HBY.out.trans (hb5.mono (by omega))); have HB5 := Lib.hid (HB3.out.trans (HBZ.out.mono hw1)); clear hrc hb5))
          all_goals
            go_wp2_with fail
            go_meet
            exact ⟨rc, rfl, rfl, HRC.out, HB5.out⟩
        case rest =>
          obtain ⟨rc, rfl, rfl, hrc, hb5⟩ := hcut
          have HB5 := Lib.hid hb5
          have HU := Lib.hid (fun h : Ent fs g => h.more (b := us) fun f hf => by rw [← HUS.out]; simp [(HT.out f).2 hf])
          clear hb5 hM a0 a1 a2 b0 b1 b2
          generalize entB n g us = eG at *
          go_wp2_with fail
          refine (wakes_any _).mono ?_
          rintro e w6 ⟨rfl, hb6⟩
          have HB6 := Lib.hid (HB5.out.trans (hb6.mono HB5.out.size))
          clear hb6
          have tb : (rb != rb) = false := by simp
          have te : (eE != eE) = false := by simp
          by_cases h1 : eE = 0
          · by_cases h2 : eG = 0
            · have h3 := HRA.out h1
              have h4 := hrc h2
              cases rb
              · have t1 : (eE != 0) = false := by simp [h1]
                have t2 : (eG != 0) = false := by simp [h2]
                clear h1 h2 h3 h4 hrc
                go_wp2
                go_ret
                exact ⟨rfl, HB6.out⟩
              · obtain rfl : rc = true := h4.2 (HU.out (h3.1 rfl))
                have t1 : (eE != 0) = false := by simp [h1]
                have t2 : (eG != 0) = false := by simp [h2]
                clear h1 h2 h3 h4 hrc
                go_wp2
                go_ret
                exact ⟨rfl, HB6.out⟩
            · have t1 : (eE != 0) = false := by simp [h1]
              have t2 : (eG != 0) = true := by simpa using h2
              clear h1 h2 hrc
              go_wp2
              go_ret
              exact ⟨rfl, HB6.out⟩
          · have t1 : (eE != 0) = true := by simpa using h1
            clear h1 hrc
            go_wp2
            go_ret
            exact ⟨rfl, HB6.out⟩
      · obtain rfl : u12 = .int .i64 (r : Int) := by rw [hi]; congr 1; omega
        clear hi
        have hlt : r < fs.length := by omega
        obtain ⟨b, off, hA, hbl, hcl⟩ := HF.out (by omega)
        obtain ⟨f, hf⟩ : ∃ f, fs[r]? = some f := ⟨_, List.getElem?_eq_getElem hlt⟩
        obtain ⟨f0, f1, f2⟩ := hcl r f hf
        have hb3 := HB1.out.trans (hb.mono hw1)
        replace f0 := (hb3.cell (p := ⟨b, off + r * 3, none⟩) hbl).trans f0
        replace f1 := (hb3.cell (p := ⟨b, off + r * 3 + 1, none⟩) hbl).trans f1
        replace f2 := (hb3.cell (p := ⟨b, off + r * 3 + 2, none⟩) hbl).trans f2
        subst hA
        have hz := hb.size
        have HST := Lib.hid (rev_step fs r f hf)
        have hll := rev_len fs (r + 1)
        have hll2 : (revFrom fs (r + 1)).length + 1 ≤ fs.length := by omega
        have HO := Lib.hid hown
        have HB := Lib.hid hb
        have hr2 : (r : Int) < (fs.length : Int) := by omega
        clear hcl hf hb hb3 hown hll
        obtain ⟨i0, I⟩ := Try.leqInfo
        have hcm' := hcm
        unfold maxLen at hcm'
        go_wp2_with (at_builtin; refine wpList_append_facts rfl (.tmp 35) (.tmp 40) rfl I rfl (HO.out.alloc _) rfl (FactsAt.lit wr f _ _ rfl) rfl ?c3 ?c4 ?c5 ?_)
        case c3 => unfold maxLen; omega
        case c4 => omega
        case c5 => simp; omega
        intro A' c' w3 hown3 hgrow3
        have HO3 := Lib.hid hown3
        have HB3 := Lib.hid ((HB.out.alloc hz _).grown hgrow3 (by simp; omega) (fun j hj => (HO.out.lt j hj).1))
        clear hown3 hgrow3
        go_wp2
        go_roundg (gk - 1)
        case measure => omega
        case rel => exact ⟨r, by omega, by omega, by go_num, by rw [HST.out, List.length_append]; exact HO3.out, HB3.out⟩

theorem diffMore_reads (os : Os) {H : Type} (enc : TypeId × Value → H) : ∃ places, DataW.whole enc Try.prog ((World.holding Try.prog os ⟨#[], #[], []⟩).forCall (fun _ _ => 0) ⟨#[], #[Value.int .i64 0, Value.agg #[.int .i64 0, .int .i64 0, .int .i64 0, .int .i64 0, .int .i64 0, .int .i64 0], Value.slice none 0 0], []⟩).memory Try.f8.params.toList Rows.diffMoreSpec.vars false #[Value.int .i64 0, Value.agg #[.int .i64 0, .int .i64 0, .int .i64 0, .int .i64 0, .int .i64 0, .int .i64 0], Value.slice none 0 0].toList 8 = some ([.lit (.int .i64 0), .agg [.agg [.lit (.int .i64 0), .lit (.int .i64 0), .lit (.int .i64 0)], .agg [.lit (.int .i64 0), .lit (.int .i64 0), .lit (.int .i64 0)]], .nil], [], places) :=
  ⟨[], by kernel_rfl⟩

set_option maxRecDepth 100000 in
theorem diffMore_lifted (os : Os) (started : os.Started) (H : Type) (enc : TypeId × Value → H) (F : Stop.Interp) :
    ReturnsInHanded {} Try.checked os 8 .any ((OpenSpec.ofChange Rows.diffMoreSpec).preRow enc Try.prog Try.f8 Rows.diffMoreRow.domain false Rows.diffMoreRow.laid) (((OpenSpec.ofChange Rows.diffMoreSpec).at F).post enc Try.prog Try.f8 false true false false) := by
  obtain ⟨places, hx⟩ := diffMore_reads os enc
  refine returnsInHanded_of_row (C := Try.checked) (s := OpenSpec.ofChange Rows.diffMoreSpec) own started (by kernel_rfl) Try.func8
    (witness_row_at (enc := enc) (C := Try.checked) false (World.holding Try.prog os ⟨#[], #[], []⟩) #[Value.int .i64 0, Value.agg #[.int .i64 0, .int .i64 0, .int .i64 0, .int .i64 0, .int .i64 0, .int .i64 0], Value.slice none 0 0] rfl (by kernel_rfl) (by kernel_rfl) (by kernel_rfl)
      (OpenSpec.preRow_of_cond 8 hx (by kernel_rfl) (fun k hk => by cases hk) (by kernel_rfl) (laidMet_of_run' 8 (by kernel_rfl) (by kernel_rfl)))) ?_
  intro W base args ds gs before hval hW _ _ hreach _ _ _
  exact more_contract Try.params8 (by kernel_rfl) rfl (fun _ _ _ => rfl) diffMore_walk W base args ds gs before hval hW hreach

theorem diffMore_said : Rows.DiffMoreSaid :=
  OpenClaim.holds_of_cond 8 Try.f8 rfl rfl rfl rfl rfl rfl rfl ⟨rfl, rfl, rfl, rfl, rfl⟩ rfl rfl rfl rfl rfl (by kernel_rfl) Try.func8 (by kernel_rfl)
    (of_decide_eq_true (by kernel_rfl)) (by unfold Func.isWrapper; first | (rw [if_pos (by decide +kernel)]; kernel_rfl) | (rw [if_neg (by decide +kernel)]; exact ⟨rfl, rfl⟩))
    (fun os started H enc _ F => by rw [OpenClaim.pre_eq_preRow]; exact diffMore_lifted os started H enc F)

end Go.Proofs.Ytpoohappocehdaa
