/- Proved here: for every list of numbers, list of facts and fact that lychgatelaw04.DiffSound is called with, in every memory, the call returns true and its arguments read as before. No conditions. -/
import Derived.Test.YtpoohappocehdaaDNums
namespace Go.Proofs.Ytpoohappocehdaa
open Go.ChangeShapes Go.WideShapes Go.ChangeAt Go.RowKit

def clampV (z : Int) : Int := max (-1099511627776) (min z 1099511627776)
theorem clampV_bd (z : Int) : -1099511627776 ≤ clampV z ∧ clampV z ≤ 1099511627776 := by unfold clampV; omega
def vOf (zs : List Int) (i : Nat) : Int := clampV (zs.getD i 0)

def okB (n : Nat) (v : Nat → Int) (f : F) : Bool := decide (0 ≤ f.x) && decide (f.x < n) && decide (0 ≤ f.y) && decide (f.y < n) && decide (f.c ≤ 8796093022208) && decide (-8796093022208 ≤ f.c) && decide (v f.x.toNat - v f.y.toNat ≤ f.c)
theorem okB_fit {n : Nat} {v : Nat → Int} {f : F} (h : okB n v f = true) : FitF n f ∧ Hold v f := by
  unfold okB at h
  simp only [Bool.and_eq_true, decide_eq_true_eq] at h
  exact ⟨⟨by omega, by omega, by omega, by omega, by omega, by omega⟩, by unfold Hold; omega⟩
def keptF (fs : List F) (n : Nat) (v : Nat → Int) (k : Nat) : List F := (fs.take k).filter (okB n v)
theorem kept_len (fs : List F) (n : Nat) (v : Nat → Int) (k : Nat) : (keptF fs n v k).length ≤ k := by
  unfold keptF
  have h1 := List.length_filter_le (okB n v) (fs.take k)
  have h2 : (fs.take k).length ≤ k := by rw [List.length_take]; omega
  omega
theorem kept_yes {fs : List F} {n : Nat} {v : Nat → Int} {k : Nat} {f : F} (hf : fs[k]? = some f) (h : okB n v f = true) : keptF fs n v (k + 1) = keptF fs n v k ++ [f] := by
  unfold keptF
  rw [List.take_add_one, List.filter_append, hf]
  simp [h]
theorem kept_no {fs : List F} {n : Nat} {v : Nat → Int} {k : Nat} {f : F} (hf : fs[k]? = some f) (h : okB n v f = false) : keptF fs n v (k + 1) = keptF fs n v k := by
  unfold keptF
  rw [List.take_add_one, List.filter_append, hf]
  simp [h]
theorem kept_mem {fs : List F} {n : Nat} {v : Nat → Int} {k : Nat} {f : F} (h : f ∈ keptF fs n v k) : okB n v f = true := (List.mem_filter.1 h).2

theorem open_leq {H : Type} {enc : TypeId × Value → H} {W : World} {base : Nat} {v : Value} {d : DataW H} {p : List MemPlace} (hval : Value.okWide Try.prog W .any base 37 v)
    (h : DataW.Trod enc Try.prog W 0 (fun _ => true) true 37 v d p) : ∃ g : F, v = .agg #[.int .i64 g.x, .int .i64 g.y, .int .i64 g.c] := by
  obtain ⟨cs, rfl, _⟩ := okWide_struct Try.underlying37 hval
  obtain ⟨fuel, hf⟩ := h
  obtain ⟨g, hg⟩ := fact_of_trod hf
  obtain ⟨l⟩ := cs
  simp [Value.cells] at hg
  subst hg
  exact ⟨g, rfl⟩

theorem sound_contract {H : Type} {enc : TypeId × Value → H} {f : FuncId} {fn : Func} {sp : ChangeSpec} {ts : List TypeId} (hp : fn.params = #[23, 22, 37]) (hr : fn.resultTypes = #[4]) (hvars : sp.vars = [])
    (hfn : ∀ d1 d2 d3 : DataW H, sp.fn H [d1, d2, d3] = { results := [.lit (.bool true)], args := [d1, d2, d3] })
    (walk : ∀ (A : Option Addr) (cap : Nat) (zs : List Int) (A2 : Option Addr) (cap2 : Nat) (fs : List F) (g : F) (w : World), NumsAt w w.heap.size A zs → zs.length ≤ cap → cap ≤ maxLen → FactsAt w w.heap.size A2 fs → fs.length ≤ cap2 → cap2 ≤ maxLen →
      Calls Try.prog f #[.slice A zs.length cap, .slice A2 fs.length cap2, .agg #[.int .i64 g.x, .int .i64 g.y, .int .i64 g.c]] w fun e w' => e = .returned (.bool true) ∧ Below w.heap.size w w')
    (W : World) (base : Nat) (args : Array Value) (ds gs : List (DataW H)) (before : List MemPlace)
    (hval : ∀ (j : Nat) t v, fn.params[j]? = some t → args[j]? = some v → Value.okWide Try.prog W .any base t v)
    (hW : DataW.Whole enc Try.prog fn.params.toList sp.vars false W args.toList ds gs before) (_hreach : (DataW.weightsEach Try.prog (fn.params.toList ++ ts) (ds ++ gs)).all (· ≤ reachBytes) = true) :
    Calls Try.prog f args W fun e W' => ∃ v, e = .returned v ∧ sp.post enc Try.prog fn false true false false W args v W' := by
  have hW' := hW
  obtain ⟨p, q, hA0, hV, rfl, hfz, hnd⟩ := hW
  rw [hvars] at hV
  have hA : DataW.TrodAll enc Try.prog W 0 (fun _ => true) true fn.params.toList args.toList ds p := hA0
  rw [hp] at hA hval
  obtain ⟨v0, vs0, d0, ds0, p0, q0, hargs, rfl, rfl, h0, r0⟩ := trodAll_cons hA
  obtain ⟨v1, vs1, d1, ds1, p1, q1, hargs1, rfl, rfl, h1, r1⟩ := trodAll_cons r0
  obtain ⟨v2, vs2, d2, ds2, p2, q2, hargs2, rfl, rfl, h2, r2⟩ := trodAll_cons r1
  obtain ⟨rfl, rfl, rfl⟩ := trodAll_nil r2
  obtain rfl : args = #[v0, v1, v2] := by cases args; simp_all
  obtain ⟨rfl, rfl⟩ := trodVars_none hV
  obtain ⟨A, cap, zs, rfl, hzs, hcap, hcm, _⟩ := open_nums (hval 0 23 v0 rfl rfl) h0
  obtain ⟨A2, cap2, fs, rfl, hfs, hcap2, hcm2, _⟩ := open_facts (hval 1 22 v1 rfl rfl) h1
  obtain ⟨g, rfl⟩ := open_leq (hval 2 37 v2 rfl rfl) h2
  clear hA0
  refine (walk A cap zs A2 cap2 fs g W hzs hcap hcm hfs hcap2 hcm2).mono fun e W' ⟨he, hb⟩ => ⟨_, he, ?_⟩
  refine close_post hr hvars (hfn _ _ _) ?_ hW' hb
  rw [hp]
  intro t ht
  have hm : t = 23 ∨ t = 22 ∨ t = 37 := by simpa using ht
  rcases hm with rfl | rfl | rfl
  · exact ⟨by kernel_rfl, of_decide_eq_true (by kernel_rfl)⟩
  · exact ⟨by kernel_rfl, of_decide_eq_true (by kernel_rfl)⟩
  · exact ⟨by kernel_rfl, of_decide_eq_true (by kernel_rfl)⟩

theorem own_drewN {w : World} {base : Nat} {e : TypeId} {size n : Nat} {v : Value} {xs : List Value} (h : w.ownsRow base e size v n xs) (k : Nat) : (w.drewN k).ownsRow base e size v n xs := h
theorem lit_cellsN (w : World) (f : F) (e : TypeId) (q g : Nat) (hg : g = w.heap.size) : ∀ j u, (fCells f)[j]? = some u → ((w.alloc (.cells #[.int .i64 f.x, .int .i64 f.y, .int .i64 f.c] e)).drewN q).cell? ((⟨g, 0, none⟩ : Addr).add j) = some u := by
  subst hg
  exact lit_cells w f e
theorem fact_one (f : F) : factCells [f] = fCells f := by simp [factCells]

theorem pick_min (c len : Nat) : ∃ N : Nat, (if (c : Int) < (len : Int) then (c : Int) else (len : Int)) = (N : Int) ∧ N ≤ c ∧ N ≤ len := by
  by_cases h : c < len
  · exact ⟨c, by rw [if_pos (by omega)], by omega, by omega⟩
  · exact ⟨len, by rw [if_neg (by omega)], by omega, by omega⟩

set_option maxHeartbeats 8000000 in
set_option maxRecDepth 100000 in
theorem diffSound_walk (A : Option Addr) (cap : Nat) (zs : List Int) (A2 : Option Addr) (cap2 : Nat) (fs : List F) (g : F) (w : World) (hzs : NumsAt w w.heap.size A zs) (_hcap : zs.length ≤ cap) (hcm : cap ≤ maxLen) (hfs : FactsAt w w.heap.size A2 fs) (hcap2 : fs.length ≤ cap2) (_hcm2 : cap2 ≤ maxLen) :
    Calls Try.prog 6 #[.slice A zs.length cap, .slice A2 fs.length cap2, .agg #[.int .i64 g.x, .int .i64 g.y, .int .i64 g.c]] w fun e w' => e = .returned (.bool true) ∧ Below w.heap.size w w' := by
  unfold maxLen at hcm _hcm2
  have HZ := Lib.hid hzs
  have HF := Lib.hid hfs
  clear hzs hfs
  obtain ⟨N, hN, hN1, hN2⟩ := pick_min 30 zs.length
  obtain ⟨M, hM, hM1, hM2⟩ := pick_min 500 fs.length
  simp only [Int.cast_ofNat_Int] at hN hM
  go_enter Try.func6, Try.ntmps6
  go_wp2_with fail
  refine (wakes_any _).mono ?_
  rintro e w1 ⟨rfl, hb1⟩
  have HG0 := Lib.hid ((Blk.new w [.int .i64 g.x, .int .i64 g.y, .int .i64 g.c] 37).below hb1 (by simp))
  have HB1 := Lib.hid (((Below.refl w.heap.size w).alloc (Nat.le_refl _) _).trans (hb1.mono (by simp)))
  have hw1 : w.heap.size < w1.heap.size := HG0.out.lt
  clear hb1
  by_cases hN0 : N < 1
  · have t0 : (N : Int) < 1 := by omega
    go_wp2
    go_ret
    exact ⟨rfl, HB1.out⟩
  have t0 : ¬ (N : Int) < 1 := by omega
  have hm1 := run_make_ints Try.underlying23 Try.infoI64 N (by omega)
  go_wp2_with fail
  clear hm1 hN
  go_loopw [29] (fun i wr => ∃ k : Nat, k ≤ N ∧ i = .int .i64 k ∧ Below w1.heap.size w1 wr ∧ Blk wr w1.heap.size (ints (upto N k (vOf zs))) 2) (fun i _ => N - (intOf i).toNat)
  case atStart => exact ⟨0, by omega, rfl, (Below.refl _ _).alloc (Nat.le_refl _) _, by rw [upto_zero]; exact Blk.new w1 _ _⟩
  case round =>
    obtain ⟨k, hk, rfl, hb, hblk⟩ := hrel
    by_cases hlt : k < N
    · obtain ⟨b, off, hA, hbl, hcl⟩ := HZ.out (by omega)
      have hb0 : Below w.heap.size w wr := HB1.out.trans (hb.mono (Nat.le_of_lt hw1))
      have c0 := (hb0.cell (p := ⟨b, off + k, none⟩) hbl).trans (hcl k (by omega))
      subst hA
      have HV : Hid (vOf zs k = clampV (zs.getD k 0)) := Lib.hid rfl
      generalize zs.getD k 0 = z at *
      obtain ⟨m1, hm1⟩ : ∃ m1, (if (1099511627776 : Int) < z then (1099511627776 : Int) else z) = m1 := ⟨_, rfl⟩
      have hm2 : (if (-1099511627776 : Int) < m1 then m1 else (-1099511627776 : Int)) = clampV z := by
        rw [← hm1]
        unfold clampV
        split <;> split <;> omega
      generalize clampV z = cc at *
      have g1 := hblk.frozen k
      obtain ⟨ov, g2⟩ : ∃ v, wr.cell? ⟨w1.heap.size, k, none⟩ = some v := ⟨_, (hblk.cell k).trans (intsGet _ k (by rw [upto_len]; exact hlt))⟩
      have HB := Lib.hid hb
      have HK := Lib.hid hblk
      have hk2 : (k : Int) < (zs.length : Int) := by omega
      have hk3 : (k : Int) < (N : Int) := by omega
      clear hb hb0 hblk hcl
      go_wp2
      clear hm1 hm2
      go_roundw
      case rel =>
        refine ⟨k + 1, by omega, by go_num, HB.out.setCell (p := ⟨w1.heap.size, k, none⟩) (Nat.le_refl _) _, ?_⟩
        have := HK.out.put k (.int .i64 cc)
        have e2 := upto_set N k (vOf zs) hlt
        rw [HV.out] at e2
        rw [intsSet, e2] at this
        exact this
      case measure => simp [intOf]; omega
    · have hke : k = N := by omega
      subst hke
      rw [upto_full] at hblk
      have HB := Lib.hid (HB1.out.trans (hb.mono (Nat.le_of_lt hw1)))
      have HV := Lib.hid hblk
      have HG1 := Lib.hid (HG0.out.below hb hw1)
      have hw2 : w1.heap.size < wr.heap.size := hblk.lt
      have hgv := w1.heap.size
      clear hb hblk
      rename World => w2
      go_wp2_with fail
      clear hM
      go_loopw [10, 48] (fun kv i wr => ∃ j : Nat, j ≤ M ∧ i = .int .i64 j ∧ wr.ownsRow w2.heap.size 37 3 kv (keptF fs k (vOf zs) j).length (factCells (keptF fs k (vOf zs) j)) ∧ Below w2.heap.size w2 wr) (fun _ i _ => M - (intOf i).toNat)
      case atStart => exact ⟨0, by omega, rfl, World.ownsRow_nil _ _ _ _, Below.refl _ _⟩
      case round =>
        obtain ⟨j, hj, rfl, hown, hb⟩ := hrel
        by_cases hlt2 : j < M
        · obtain ⟨b, off, hA, hbl, hcl⟩ := HF.out (by omega)
          obtain ⟨f, hf⟩ : ∃ f, fs[j]? = some f := ⟨_, List.getElem?_eq_getElem (by omega)⟩
          obtain ⟨f0, f1, f2⟩ := hcl j f hf
          have hb0 : Below w.heap.size w wr := HB.out.trans (hb.mono (by have := HB.out.size; omega))
          replace f0 := (hb0.cell (p := ⟨b, off + j * 3, none⟩) hbl).trans f0
          replace f1 := (hb0.cell (p := ⟨b, off + j * 3 + 1, none⟩) hbl).trans f1
          replace f2 := (hb0.cell (p := ⟨b, off + j * 3 + 2, none⟩) hbl).trans f2
          subst hA
          have hkl := kept_len fs k (vOf zs) j
          have HYES : Hid (okB k (vOf zs) f = true → keptF fs k (vOf zs) (j + 1) = keptF fs k (vOf zs) j ++ [f]) := Lib.hid (kept_yes hf)
          have HNO : Hid (okB k (vOf zs) f = false → keptF fs k (vOf zs) (j + 1) = keptF fs k (vOf zs) j) := Lib.hid (kept_no hf)
          obtain ⟨x, y, c⟩ := f
          simp only at f0 f1 f2
          have HOK : Hid (okB k (vOf zs) ⟨x, y, c⟩ = (decide (0 ≤ x) && decide (x < k) && decide (0 ≤ y) && decide (y < k) && decide (c ≤ 8796093022208) && decide (-8796093022208 ≤ c) && decide (vOf zs x.toNat - vOf zs y.toNat ≤ c))) := Lib.hid rfl
          have hz := hb.size
          have hbw : b < wr.heap.size := by have := hb0.size; omega
          have hlt3 : (j : Int) < (M : Int) := by omega
          have hvw : w1.heap.size < wr.heap.size := by omega
          have HO := Lib.hid hown
          have HB2 := Lib.hid hb
          have HVB := Lib.hid (HV.out.below hb hw2)
          clear hb hb0 hown hcl hf
          cases q1 : decide ((0 : Int) ≤ x)
          · skip
            go_wp2_with fail
            go_quiet (fail)
            go_wp2
            go_roundw
            case rel => exact ⟨j + 1, by omega, by go_num, by rw [HNO.out (by rw [HOK.out]; simp [*])]; exact own_below HO.out (below_drewN ((Below.refl _ _).alloc (Nat.le_refl _) _) _), below_drewN (HB2.out.alloc hz _) _⟩
            case measure => simp [intOf]; omega
          · skip
            cases q2 : decide (x < (k : Int))
            · skip
              go_wp2_with fail
              go_quiet (fail)
              go_wp2
              go_roundw
              case rel => exact ⟨j + 1, by omega, by go_num, by rw [HNO.out (by rw [HOK.out]; simp [*])]; exact own_below HO.out (below_drewN ((Below.refl _ _).alloc (Nat.le_refl _) _) _), below_drewN (HB2.out.alloc hz _) _⟩
              case measure => simp [intOf]; omega
            · skip
              cases q3 : decide ((0 : Int) ≤ y)
              · skip
                go_wp2_with fail
                go_quiet (fail)
                go_wp2
                go_roundw
                case rel => exact ⟨j + 1, by omega, by go_num, by rw [HNO.out (by rw [HOK.out]; simp [*])]; exact own_below HO.out (below_drewN ((Below.refl _ _).alloc (Nat.le_refl _) _) _), below_drewN (HB2.out.alloc hz _) _⟩
                case measure => simp [intOf]; omega
              · skip
                cases q4 : decide (y < (k : Int))
                · skip
                  go_wp2_with fail
                  go_quiet (fail)
                  go_wp2
                  go_roundw
                  case rel => exact ⟨j + 1, by omega, by go_num, by rw [HNO.out (by rw [HOK.out]; simp [*])]; exact own_below HO.out (below_drewN ((Below.refl _ _).alloc (Nat.le_refl _) _) _), below_drewN (HB2.out.alloc hz _) _⟩
                  case measure => simp [intOf]; omega
                · skip
                  cases q5 : decide (c ≤ (8796093022208 : Int))
                  · skip
                    go_wp2_with fail
                    go_quiet (fail)
                    go_wp2
                    go_roundw
                    case rel => exact ⟨j + 1, by omega, by go_num, by rw [HNO.out (by rw [HOK.out]; simp [*])]; exact own_below HO.out (below_drewN ((Below.refl _ _).alloc (Nat.le_refl _) _) _), below_drewN (HB2.out.alloc hz _) _⟩
                    case measure => simp [intOf]; omega
                  · skip
                    cases q6 : decide ((-8796093022208 : Int) ≤ c)
                    · skip
                      go_wp2_with fail
                      go_quiet (fail)
                      go_wp2
                      go_roundw
                      case rel => exact ⟨j + 1, by omega, by go_num, by rw [HNO.out (by rw [HOK.out]; simp [*])]; exact own_below HO.out (below_drewN ((Below.refl _ _).alloc (Nat.le_refl _) _) _), below_drewN (HB2.out.alloc hz _) _⟩
                      case measure => simp [intOf]; omega
                    · skip
                      have p1 := of_decide_eq_true q1
                      have p2 := of_decide_eq_true q2
                      have p3 := of_decide_eq_true q3
                      have p4 := of_decide_eq_true q4
                      have ax : wr.cell? ⟨w1.heap.size, x.toNat, none⟩ = some (.int .i64 (vOf zs x.toNat)) := by rw [HVB.out.cell, intsGet _ _ (by simp; omega)]; simp [show x.toNat < k by omega]
                      have ay : wr.cell? ⟨w1.heap.size, y.toNat, none⟩ = some (.int .i64 (vOf zs y.toNat)) := by rw [HVB.out.cell, intsGet _ _ (by simp; omega)]; simp [show y.toNat < k by omega]
                      have bx := clampV_bd (zs.getD x.toNat 0)
                      have by' := clampV_bd (zs.getD y.toNat 0)
                      change -1099511627776 ≤ vOf zs x.toNat ∧ vOf zs x.toNat ≤ 1099511627776 at bx
                      change -1099511627776 ≤ vOf zs y.toNat ∧ vOf zs y.toNat ≤ 1099511627776 at by'
                      generalize vOf zs x.toNat = vx at *
                      generalize vOf zs y.toNat = vy at *
                      have hsub : IntKind.i64.wrap (vx - vy) = vx - vy := IntWalk.i64_in _ (by omega)
                      cases q7 : decide (vx - vy ≤ c)
                      · skip
                        go_wp2_with fail
                        go_quiet (fail)
                        go_wp2
                        go_roundw
                        case rel => exact ⟨j + 1, by omega, by go_num, by rw [HNO.out (by rw [HOK.out]; simp [*])]; exact own_below HO.out (below_drewN ((Below.refl _ _).alloc (Nat.le_refl _) _) _), below_drewN (HB2.out.alloc hz _) _⟩
                        case measure => simp [intOf]; omega
                      · skip
                        have HK2 := Lib.hid (HYES.out (by rw [HOK.out]; simp [*]))
                        have HFC : Hid (fCells ⟨x, y, c⟩ = [.int .i64 x, .int .i64 y, .int .i64 c]) := Lib.hid rfl
                        obtain ⟨i0, hi, hz0, hz1, hz2⟩ := info_parts Try.infoLeq
                        go_wp2_with fail
                        go_quiet (fail)
                        clear hsub q7
                        go_wp2_with (at_builtin; refine wpList_append_own _ rfl (.tmp 98) (.tmp 100) 22 rfl w2.heap.size 37 i0 _ 3 24 Try.underlying22 hi hz0 hz1 hz2 rfl (by decide) _ _ _ rfl (own_drewN ((HO.out.alloc _).alloc _) _) ⟨wr.heap.size + 1, 0, none⟩ 1 1 (fCells ⟨x, y, c⟩) rfl rfl ?c1 ?c2 ?c3 ?c4 ?c5 ?_)
                        case c1 => exact lit_cellsN (wr.alloc _) ⟨x, y, c⟩ _ _ _ (by simp)
                        case c2 => exact one_cells _
                        case c3 => unfold maxLen; omega
                        case c4 => omega
                        case c5 => simp; omega
                        intro v' w3 hown3 hgrow3 _
                        have HO3 := Lib.hid hown3
                        have HB3 := Lib.hid ((below_drewN ((HB2.out.alloc hz _).alloc (by simp; omega) _) _).grown hgrow3 (by simp; omega) (fun j hj => (HO.out.lt j hj).1))
                        clear hown3 hgrow3
                        go_wp2
                        go_roundw
                        case rel => exact ⟨j + 1, by omega, by go_num, by rw [HK2.out, List.length_append, factCells_append, fact_one]; exact HO3.out, HB3.out⟩
                        case measure => simp [intOf]; omega
        · have hje : j = M := by omega
          subst hje
          have hkl := kept_len fs k (vOf zs) j
          have HMEM : Hid (∀ f ∈ keptF fs k (vOf zs) j, FitF k f ∧ Hold (vOf zs) f) := Lib.hid fun f hf => okB_fit (kept_mem hf)
          obtain ⟨A3, cap3, rfl, hc3, hcm3⟩ := own_slice hown
          have HO := Lib.hid hown
          have HB3 := Lib.hid (HB.out.trans (hb.mono (by have := HB.out.size; omega)))
          have HG2 := Lib.hid (HG1.out.below hb (by omega))
          have HVB := Lib.hid (HV.out.below hb hw2)
          clear hb hown
          generalize keptF fs k (vOf zs) j = K at *
          have HFIT : Hid (FitS k K) := Lib.hid ⟨by omega, by omega, by omega, fun f hf => (HMEM.out f hf).1⟩
          have HSOL : Hid (Sol K (vOf zs)) := Lib.hid fun f hf => (HMEM.out f hf).2
          go_wp2_with fail
          refine (solve_ok k A3 cap3 K _ (FactsAt.of_own HO.out) HFIT.out).mono ?_
          rintro e w3 ⟨hb3, ⟨l, gl, hp, rfl, hg, hblk⟩ | ⟨v, c, hc, hl, rfl, hown3⟩⟩
          · have HB4 := Lib.hid (HB3.out.trans (hb3.mono HB3.out.size))
            have HG3 := Lib.hid (HG2.out.below hb3 HG2.out.lt)
            have HVC := Lib.hid (HVB.out.below hb3 HVB.out.lt)
            have HO3 := Lib.hid (own_below HO.out hb3)
            have g0 := HG3.out.cell 0
            have g1 := HG3.out.cell 1
            have g2 := HG3.out.cell 2
            simp only [List.getElem?_cons_zero, List.getElem?_cons_succ] at g0 g1 g2
            clear hb3 hp hg hblk
            go_wp2_with fail
            refine (entails_any k g A3 cap3 K _ (FactsAt.of_own HO3.out) hc3 hcm3).mono ?_
            rintro e w4 ⟨is, rfl, hi0, hi1, hb4⟩
            have HB5 := Lib.hid (HB4.out.trans (hb4.mono HB4.out.size))
            have HG4 := Lib.hid (HG3.out.below hb4 HG3.out.lt)
            have HVD := Lib.hid (HVC.out.below hb4 HVC.out.lt)
            clear g0 g1 g2 hb4
            have g0 := HG4.out.cell 0
            have g1 := HG4.out.cell 1
            have g2 := HG4.out.cell 2
            simp only [List.getElem?_cons_zero, List.getElem?_cons_succ] at g0 g1 g2
            have tk : ((k : Int) != (k : Int)) = false := by simp
            by_cases he : entB k g K = 0
            · cases is
              · rw [he]
                clear hi0 hi1 he
                go_wp2_with fail
                go_quiet (fail)
                go_wp2
                go_ret
                exact ⟨rfl, below_drewN HB5.out _⟩
              · have hent := (hi1 he).1 rfl _ HSOL.out
                obtain ⟨m, hm, hgf, _, _, _⟩ := entB_ok he
                obtain rfl : m = k := by omega
                obtain ⟨x0, xn, y0, yn, _, _⟩ := hgf
                rw [he]
                clear hi0 hi1 he hm
                unfold Hold at hent
                obtain ⟨gx, gy, gc⟩ := g
                simp only at x0 xn y0 yn g0 g1 g2 hent
                have ax : w4.cell? ⟨w1.heap.size, gx.toNat, none⟩ = some (.int .i64 (vOf zs gx.toNat)) := by rw [HVD.out.cell, intsGet _ _ (by simp; omega)]; simp [show gx.toNat < m by omega]
                have ay : w4.cell? ⟨w1.heap.size, gy.toNat, none⟩ = some (.int .i64 (vOf zs gy.toNat)) := by rw [HVD.out.cell, intsGet _ _ (by simp; omega)]; simp [show gy.toNat < m by omega]
                have bx := clampV_bd (zs.getD gx.toNat 0)
                have by' := clampV_bd (zs.getD gy.toNat 0)
                change -1099511627776 ≤ vOf zs gx.toNat ∧ vOf zs gx.toNat ≤ 1099511627776 at bx
                change -1099511627776 ≤ vOf zs gy.toNat ∧ vOf zs gy.toNat ≤ 1099511627776 at by'
                generalize vOf zs gx.toNat = vx at *
                generalize vOf zs gy.toNat = vy at *
                have hsub : IntKind.i64.wrap (vx - vy) = vx - vy := IntWalk.i64_in _ (by omega)
                have q7 : decide (vx - vy ≤ gc) = true := by simpa using hent
                clear hent
                go_wp2_with fail
                go_quiet (fail)
                clear hsub
                go_wp2
                go_ret
                exact ⟨rfl, below_drewN HB5.out _⟩
            · have te : (entB k g K != 0) = true := by simpa using he
              have te2 : (entB k g K == 0) = false := by simpa using he
              generalize entB k g K = cd at *
              clear hi0 hi1 he
              go_wp2_with fail
              go_quiet (fail)
              go_wp2
              go_ret
              exact ⟨rfl, below_drewN HB5.out _⟩
          · exact absurd HSOL.out (hc.none _)

theorem diffSound_reads (os : Os) {H : Type} (enc : TypeId × Value → H) : ∃ places, DataW.whole enc Try.prog ((World.holding Try.prog os ⟨#[], #[], []⟩).forCall (fun _ _ => 0) ⟨#[], #[Value.slice none 0 0, Value.slice none 0 0, Value.agg #[.int .i64 0, .int .i64 0, .int .i64 0]], []⟩).memory Try.f6.params.toList Rows.diffSoundSpec.vars false #[Value.slice none 0 0, Value.slice none 0 0, Value.agg #[.int .i64 0, .int .i64 0, .int .i64 0]].toList 8 = some ([.nil, .nil, .agg [.lit (.int .i64 0), .lit (.int .i64 0), .lit (.int .i64 0)]], [], places) :=
  ⟨[], by kernel_rfl⟩

set_option maxRecDepth 100000 in
theorem diffSound_lifted (os : Os) (started : os.Started) (H : Type) (enc : TypeId × Value → H) (F : Stop.Interp) :
    ReturnsInHanded {} Try.checked os 6 .any ((OpenSpec.ofChange Rows.diffSoundSpec).preRow enc Try.prog Try.f6 Rows.diffSoundRow.domain false Rows.diffSoundRow.laid) (((OpenSpec.ofChange Rows.diffSoundSpec).at F).post enc Try.prog Try.f6 false true false false) := by
  obtain ⟨places, hx⟩ := diffSound_reads os enc
  refine returnsInHanded_of_row (C := Try.checked) (s := OpenSpec.ofChange Rows.diffSoundSpec) own started (by kernel_rfl) Try.func6
    (witness_row_at (enc := enc) (C := Try.checked) false (World.holding Try.prog os ⟨#[], #[], []⟩) #[Value.slice none 0 0, Value.slice none 0 0, Value.agg #[.int .i64 0, .int .i64 0, .int .i64 0]] rfl (by kernel_rfl) (by kernel_rfl) (by kernel_rfl)
      (OpenSpec.preRow_of_cond 8 hx (by kernel_rfl) (fun k hk => by cases hk) (by kernel_rfl) (laidMet_of_run' 8 (by kernel_rfl) (by kernel_rfl)))) ?_
  intro W base args ds gs before hval hW _ _ hreach _ _ _
  exact sound_contract Try.params6 (by kernel_rfl) rfl (fun _ _ _ => rfl) diffSound_walk W base args ds gs before hval hW hreach

theorem diffSound_said : Rows.DiffSoundSaid :=
  OpenClaim.holds_of_cond 6 Try.f6 rfl rfl rfl rfl rfl rfl rfl ⟨rfl, rfl, rfl, rfl, rfl⟩ rfl rfl rfl rfl rfl (by kernel_rfl) Try.func6 (by kernel_rfl)
    (of_decide_eq_true (by kernel_rfl)) (by unfold Func.isWrapper; first | (rw [if_pos (by decide +kernel)]; kernel_rfl) | (rw [if_neg (by decide +kernel)]; exact ⟨rfl, rfl⟩))
    (fun os started H enc _ F => by rw [OpenClaim.pre_eq_preRow]; exact diffSound_lifted os started H enc F)

end Go.Proofs.Ytpoohappocehdaa
