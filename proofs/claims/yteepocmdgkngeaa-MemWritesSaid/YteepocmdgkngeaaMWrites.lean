/- Proved here: for every list of cells and list of values that lychgatelaw06.MemWrites is called with, in every memory, the call returns true and its arguments read as before. No conditions. -/
import Derived.Test.YteepocmdgkngeaaMClose2
import Derived.Test.YteepocmdgkngeaaMBlocks2
import Derived.Deep.DeepCutAuto
import Derived.Deep.RegionWith
namespace Go.Proofs.Yteepocmdgkngeaa
open Go.ChangeShapes Go.WideShapes Go.ChangeAt Go.RowKit

def wc (v : MV) : MC := ⟨v, 0, false⟩
/- Eight values. -/
structure W8 where
  a0 : MV
  a1 : MV
  a2 : MV
  a3 : MV
  b0 : MV
  b1 : MV
  b2 : MV
  b3 : MV
def W8.s (x : W8) : MS := [⟨true, [wc x.a0, wc x.a1, wc x.a2, wc x.a3]⟩, ⟨true, [wc x.b0, wc x.b1, wc x.b2, wc x.b3]⟩]
def W8.get (x : W8) : Nat → MV
  | 0 => x.a0
  | 1 => x.a1
  | 2 => x.a2
  | 3 => x.a3
  | 4 => x.b0
  | 5 => x.b1
  | 6 => x.b2
  | _ => x.b3
def W8.set (x : W8) (v : MV) : Nat → W8
  | 0 => { x with a0 := v }
  | 1 => { x with a1 := v }
  | 2 => { x with a2 := v }
  | 3 => { x with a3 := v }
  | 4 => { x with b0 := v }
  | 5 => { x with b1 := v }
  | 6 => { x with b2 := v }
  | _ => { x with b3 := v }
def W8.cells (x : W8) : List Value := vCells x.a0 ++ vCells x.a1 ++ vCells x.a2 ++ vCells x.a3 ++ vCells x.b0 ++ vCells x.b1 ++ vCells x.b2 ++ vCells x.b3
def W8.zero : W8 := ⟨v0, v0, v0, v0, v0, v0, v0, v0⟩
abbrev wp (k : Nat) : MV := ⟨2, ((k % 4 : Nat) : Int), ((k / 4 : Nat) : Int) + 1⟩
def W8.mid (x : W8) (k : Nat) : MS := beginS x.s (wp k) true
theorem w8_begin (x : W8) (k : Nat) (hk : k < 8) : beginW x.s (wp k) true = 0 := by
  match k, hk with
  | 0, _ => rfl
  | 1, _ => rfl
  | 2, _ => rfl
  | 3, _ => rfl
  | 4, _ => rfl
  | 5, _ => rfl
  | 6, _ => rfl
  | 7, _ => rfl
theorem w8_end (x : W8) (k : Nat) (hk : k < 8) (v : MV) : endS (x.mid k) (wp k) true v = (x.set (needV v) k).s ∧ endV (x.mid k) (wp k) true = ⟨0, 0, 0⟩ ∧ endW (x.mid k) (wp k) true = 0 := by
  match k, hk with
  | 0, _ => exact ⟨rfl, rfl, rfl⟩
  | 1, _ => exact ⟨rfl, rfl, rfl⟩
  | 2, _ => exact ⟨rfl, rfl, rfl⟩
  | 3, _ => exact ⟨rfl, rfl, rfl⟩
  | 4, _ => exact ⟨rfl, rfl, rfl⟩
  | 5, _ => exact ⟨rfl, rfl, rfl⟩
  | 6, _ => exact ⟨rfl, rfl, rfl⟩
  | 7, _ => exact ⟨rfl, rfl, rfl⟩
theorem w8_put (x : W8) (k : Nat) (hk : k < 8) (v : MV) : ((x.cells.set (k * 3) (.int .i64 v.kind)).set (k * 3 + 1) (.int .i64 v.n)).set (k * 3 + 2) (.int .i64 v.block) = (x.set v k).cells := by
  match k, hk with
  | 0, _ => rfl
  | 1, _ => rfl
  | 2, _ => rfl
  | 3, _ => rfl
  | 4, _ => rfl
  | 5, _ => rfl
  | 6, _ => rfl
  | 7, _ => rfl
theorem w8_get (x : W8) (k : Nat) (hk : k < 8) : x.cells[k * 3]? = some (.int .i64 (x.get k).kind) ∧ x.cells[k * 3 + 1]? = some (.int .i64 (x.get k).n) ∧ x.cells[k * 3 + 2]? = some (.int .i64 (x.get k).block) := by
  match k, hk with
  | 0, _ => exact ⟨rfl, rfl, rfl⟩
  | 1, _ => exact ⟨rfl, rfl, rfl⟩
  | 2, _ => exact ⟨rfl, rfl, rfl⟩
  | 3, _ => exact ⟨rfl, rfl, rfl⟩
  | 4, _ => exact ⟨rfl, rfl, rfl⟩
  | 5, _ => exact ⟨rfl, rfl, rfl⟩
  | 6, _ => exact ⟨rfl, rfl, rfl⟩
  | 7, _ => exact ⟨rfl, rfl, rfl⟩
theorem mod8 {z : Int} {W : World} (h0 : 0 ≤ z) (h8 : z < 8) : ∃ q : Nat, q < 8 ∧ Value.int .i64 z = .int .i64 q ∧ W = W := by
  obtain ⟨q, rfl⟩ := Int.eq_ofNat_of_zero_le h0
  exact ⟨q, by omega, rfl, rfl⟩
theorem wp_lo {q : Nat} (h : q < 4) : wp q = ⟨2, (q : Int) % 4, 1⟩ := by
  show (⟨2, ((q % 4 : Nat) : Int), ((q / 4 : Nat) : Int) + 1⟩ : MV) = _
  rw [show ((q % 4 : Nat) : Int) = (q : Int) % 4 by omega, show ((q / 4 : Nat) : Int) + 1 = 1 by omega]
theorem wp_hi {q : Nat} (h : 4 ≤ q) (h8 : q < 8) : wp q = ⟨2, (q : Int) % 4, 2⟩ := by
  show (⟨2, ((q % 4 : Nat) : Int), ((q / 4 : Nat) : Int) + 1⟩ : MV) = _
  rw [show ((q % 4 : Nat) : Int) = (q : Int) % 4 by omega, show ((q / 4 : Nat) : Int) + 1 = 2 by omega]
theorem w8_facts {x : W8} {q : Nat} (hq : q < 8) {p : MV} (e : wp q = p) {v : MV} (hv : needV v = v) :
    (beginS x.s p true = x.mid q ∧ beginW x.s p true = 0) ∧ (endS (x.mid q) p true v = (x.set v q).s ∧ endV (x.mid q) p true = ⟨0, 0, 0⟩ ∧ endW (x.mid q) p true = 0) := by
  subst e
  have h := w8_end x q hq v
  rw [hv] at h
  exact ⟨⟨rfl, w8_begin x q hq⟩, h⟩
/- What is told of the eight values. -/
theorem w8_told {w : World} {B g : Nat} {x : W8} {qs : List G3} (h : BlocksIs w B g x.s qs) {a c : Nat} (ha : a < 2) (hc : c < 4) :
    ∃ gc, w.cell? ⟨g, a * 4 + 1, none⟩ = some (.slice (some ⟨gc, 0, none⟩) 4 4) ∧ w.cell? ⟨gc, c * 3, none⟩ = some (.int .i64 (x.get (a * 4 + c)).kind) ∧ w.cell? ⟨gc, c * 3 + 1, none⟩ = some (.int .i64 (x.get (a * 4 + c)).n) ∧ w.cell? ⟨gc, c * 3 + 2, none⟩ = some (.int .i64 (x.get (a * 4 + c)).block) := by
  have hl : qs.length = 2 := h.len
  have hqa : qs[a]? = some (qs[a]'(by omega)) := List.getElem?_eq_getElem _
  have key : ∃ bb, x.s[a]? = some bb ∧ bb.cells.length = 4 ∧ ∃ y, bb.cells[c]? = some y ∧ y.v = x.get (a * 4 + c) := by
    match a, ha, c, hc with
    | 0, _, 0, _ => exact ⟨_, rfl, rfl, _, rfl, rfl⟩
    | 0, _, 1, _ => exact ⟨_, rfl, rfl, _, rfl, rfl⟩
    | 0, _, 2, _ => exact ⟨_, rfl, rfl, _, rfl, rfl⟩
    | 0, _, 3, _ => exact ⟨_, rfl, rfl, _, rfl, rfl⟩
    | 1, _, 0, _ => exact ⟨_, rfl, rfl, _, rfl, rfl⟩
    | 1, _, 1, _ => exact ⟨_, rfl, rfl, _, rfl, rfl⟩
    | 1, _, 2, _ => exact ⟨_, rfl, rfl, _, rfl, rfl⟩
    | 1, _, 3, _ => exact ⟨_, rfl, rfl, _, rfl, rfl⟩
  obtain ⟨bb, hsa, h4, y, hy, hyv⟩ := key
  have ht := h.told a _ _ hsa hqa
  have hr := h.row.cell (a * 4 + 1)
  rw [tRow_get hsa hqa 1 (by omega)] at hr
  refine ⟨(qs[a]'(by omega)).c, ?_, ?_, ?_, ?_⟩
  · have e : (tCells bb (qs[a]'(by omega)))[1]? = some (.slice (some ⟨(qs[a]'(by omega)).c, 0, none⟩) bb.cells.length bb.cells.length) := rfl
    rw [e, h4] at hr
    exact hr
  · have := (ht.c.cell (c * 3 + 0)).trans (gRow_get fV_len hy 0 (by omega))
    rw [← hyv]
    exact this
  · have := (ht.c.cell (c * 3 + 1)).trans (gRow_get fV_len hy 1 (by omega))
    rw [← hyv]
    exact this
  · have := (ht.c.cell (c * 3 + 2)).trans (gRow_get fV_len hy 2 (by omega))
    rw [← hyv]
    exact this
theorem cell_lt {W : World} {b i : Nat} {v : Value} (h : W.cell? ⟨b, i, none⟩ = some v) : b < W.heap.size := by
  rcases Nat.lt_or_ge b W.heap.size with h1 | h1
  · exact h1
  · simp [World.cell?, Array.getElem?_eq_none h1] at h
theorem w8_rdm (x : W8) (k : Nat) : Rd (x.mid k) 1 := by
  have h : Rd x.s 0 := by
    intro b hb c hc
    simp only [W8.s, List.mem_cons, List.not_mem_nil, or_false] at hb
    rcases hb with rfl | rfl <;> (simp only [List.mem_cons, List.not_mem_nil, or_false] at hc; rcases hc with rfl | rfl | rfl | rfl <;> exact ⟨Int.le_refl _, Int.le_refl _⟩)
  exact h.begin _ _

theorem w8_rd (x : W8) : Rd x.s 0 := by
  intro b hb c hc
  simp only [W8.s, List.mem_cons, List.not_mem_nil, or_false] at hb
  rcases hb with rfl | rfl <;> (simp only [List.mem_cons, List.not_mem_nil, or_false] at hc; rcases hc with rfl | rfl | rfl | rfl <;> exact ⟨Int.le_refl _, Int.le_refl _⟩)
theorem w8_used (x : W8) : usedS x.s = 10 := rfl
theorem wka : allocS [] 4 = [⟨true, [c0, c0, c0, c0]⟩] ∧ allocV [] 4 = ⟨2, 0, 1⟩ ∧ allocOK [] 4 = true := ⟨rfl, rfl, rfl⟩
theorem wkb : allocS [⟨true, [c0, c0, c0, c0]⟩] 4 = W8.zero.s ∧ allocV [⟨true, [c0, c0, c0, c0]⟩] 4 = ⟨2, 0, 2⟩ ∧ allocOK [⟨true, [c0, c0, c0, c0]⟩] 4 = true := ⟨rfl, rfl, rfl⟩
theorem need_ptr (i k : Int) : needV ⟨2, i, k⟩ = ⟨2, i, k⟩ := rfl
theorem need_int (i : Int) : needV ⟨1, i, 0⟩ = ⟨1, i, 0⟩ := rfl

def WritesRel (w : World) (b ga gb gw n : Nat) (i : Value) (W : World) : Prop := ∃ (k : Nat) (x : W8), k ≤ n ∧ i = .int .i64 k ∧ Sep w W [memT b x.s, boxT ga (vCells ⟨2, 0, 1⟩) 34, boxT gb (vCells ⟨2, 0, 2⟩) 34, boxT gw x.cells 58]

set_option maxRecDepth 100000 in
set_option maxHeartbeats 8000000 in
theorem memWrites_walk (A : Option Addr) (cap : Nat) (l : List Int) (A1 : Option Addr) (cap1 : Nat) (l1 : List Int) (w : World) (hl : NumsAt w w.heap.size A l) (hc : l.length ≤ cap) (hm : cap ≤ maxLen) (_hy : cap * 8 ≤ 140737488351232)
    (hl1 : NumsAt w w.heap.size A1 l1) (_hc1 : l1.length ≤ cap1) (_hm1 : cap1 ≤ maxLen) (_hy1 : cap1 * 8 ≤ 140737488351232) :
    Calls Try.prog 6 #[.slice A l.length cap, .slice A1 l1.length cap1] w fun e w' => e = .returned (.bool true) ∧ Below w.heap.size w w' := by
  unfold maxLen at hm _hm1
  have HL := Lib.hid hl
  have HL1 := Lib.hid hl1
  clear hl hl1
  go_enter Try.func6, Try.ntmps6
  go_wp2_with fail
  ((with_reducible refine (wakes_any _).mono ?_); rintro e w0 ⟨rfl, hb0⟩)
  have S0 := Lib.hid ((Sep.start w).quiet hb0)
  clear hb0
  go_wp2_with fail
  ((with_reducible refine (S0.out.newMem rfl).mono ?_); rintro e w1 ⟨rfl, hs⟩)
  generalize w0.heap.size = b at *
  have H := Lib.hid hs
  clear hs S0
  go_wp2_with fail
  ((with_reducible refine (H.out.alloc 0 rfl 4 wka rfl).mono ?_); rintro e w2 ⟨rfl, hs⟩)
  have hq : Sep w (w2.alloc (.cells #[.int .i64 2, .int .i64 0, .int .i64 1] 34)) _ := hs.boxV ⟨2, 0, 1⟩ rfl
  have H2 := Lib.hid hq
  clear hs hq
  go_wp2_with fail
  ((with_reducible refine (H2.out.alloc 0 rfl 4 wkb rfl).mono ?_); rintro e w3 ⟨rfl, hs⟩)
  have hq : Sep w (w3.alloc (.cells #[.int .i64 2, .int .i64 0, .int .i64 2] 34)) _ := hs.boxV ⟨2, 0, 2⟩ rfl
  have hq2 := hq.box W8.zero.cells 58
  rw [World.size_alloc] at hq2
  have H3 := Lib.hid hq2
  clear hs hq hq2
  generalize w2.heap.size = ga at *
  go_wp2
  go_loopw [34] (fun i wr => WritesRel w b ga w3.heap.size (w3.heap.size + 1) l.length i wr) (fun i _ => l.length - (intOf i).toNat)
  case atStart => exact ⟨0, W8.zero, by omega, rfl, H3.out⟩
  case round =>
    clear H3
    generalize w3.heap.size = gb at *
    obtain ⟨k, x, hk, rfl, hs⟩ := hrel
    by_cases hlt : k < l.length
    · obtain ⟨ab, off, rfl, d0⟩ := HL.out.at hs.below hlt
      have HR := Lib.hid hs
      have xa := hs.boxAt 1 rfl
      have xb := hs.boxAt 2 rfl
      clear hs
      generalize l.getD k 0 = n at *
      have hk1 : (k : Int) < (l.length : Int) := by omega
      obtain ⟨xa0, xa1, xa2, xa3⟩ := xa
      obtain ⟨xb0, xb1, xb2, xb3⟩ := xb
      go_upto_region 10 with fail
      go_cut [12] (fun kv W => ∃ q : Nat, q < 8 ∧ kv = .int .i64 q ∧ wr = W)
      case first =>
        go_wp2_with fail
        all_goals
          go_meet
          exact mod8 (by omega) (by omega)
      case rest =>
        obtain ⟨q, hq, rfl, rfl⟩ := hcut
        rcases Nat.lt_or_ge q 4 with h4 | h4
        · have d3 : decide ((3 : Int) < (q : Int)) = false := by rw [decide_eq_false_iff_not]; omega
          have hwp := wp_lo h4
          by_cases hv : k < l1.length
          · obtain ⟨fb, fo, rfl, f0⟩ := HL1.out.at HR.out.below hv
            have hv1 : (k : Int) < (l1.length : Int) := by omega
            have fl := cell_lt f0
            generalize l1.getD k 0 = z at *
            have HQ : Hid (Sep w ((wr.alloc (.cells #[.int .i64 2, .int .i64 ((q : Int) % 4), .int .i64 1] 34)).alloc (.cells #[.int .i64 1, .int .i64 z, .int .i64 0] 34)) [memT b x.s, boxT ga (vCells ⟨2, 0, 1⟩) 34, boxT gb (vCells ⟨2, 0, 2⟩) 34, boxT (gb + 1) x.cells 58, boxT wr.heap.size (vCells ⟨2, (q : Int) % 4, 1⟩) 34, boxT (wr.heap.size + 1) (vCells ⟨1, z, 0⟩) 34]) := Lib.hid (by
              have h1 : Sep w (wr.alloc (.cells #[.int .i64 2, .int .i64 ((q : Int) % 4), .int .i64 1] 34)) _ := HR.out.boxV ⟨2, (q : Int) % 4, 1⟩ rfl
              have h2 : Sep w ((wr.alloc (.cells #[.int .i64 2, .int .i64 ((q : Int) % 4), .int .i64 1] 34)).alloc (.cells #[.int .i64 1, .int .i64 z, .int .i64 0] 34)) _ := h1.boxV ⟨1, z, 0⟩ rfl
              rw [World.size_alloc] at h2
              exact h2)
            obtain ⟨hf1, hf2⟩ := w8_facts (x := x) hq (v := ⟨1, z, 0⟩) hwp rfl
            have HF1 := Lib.hid hf1
            have HF2 := Lib.hid hf2
            have HWP := Lib.hid hwp
            clear hf1 hf2 hwp
            go_wp2_with fail
            ((with_reducible refine (HQ.out.begin 0 rfl ⟨2, (q : Int) % 4, 1⟩ true (w8_rd x) (by decide) HF1.out rfl).mono ?_); rintro e w4 ⟨rfl, hs⟩)
            clear xa0 xa1 xa2 xa3 xb0 xb1 xb2 xb3
            generalize wr.heap.size = gp at *
            obtain ⟨x0, x1, x2, x3⟩ := hs.boxAt 4 rfl
            obtain ⟨y0, y1, y2, y3⟩ := hs.boxAt 5 rfl
            have H4 := Lib.hid hs
            clear hs d0
            go_wp2_with fail
            ((with_reducible refine (H4.out.end 0 rfl ⟨2, (q : Int) % 4, 1⟩ true ⟨1, z, 0⟩ (w8_rdm x q) (by decide) HF2.out rfl).mono ?_); rintro e w5 ⟨rfl, hs⟩)
            clear x0 x1 x2 x3 y0 y1 y2 y3
            obtain ⟨y0, y1, y2, y3⟩ := hs.boxAt 5 rfl
            have hbw := hs.blk 3 rfl
            have u0 := hbw.cell (q * 3)
            have u1 := hbw.cell (q * 3 + 1)
            have u2 := hbw.cell (q * 3 + 2)
            obtain ⟨e0, e1, e2⟩ := w8_get x q hq
            rw [e0] at u0
            rw [e1] at u1
            rw [e2] at u2
            have z0 := hbw.frozen (q * 3)
            have z1 := hbw.frozen (q * 3 + 1)
            have z2 := hbw.frozen (q * 3 + 2)
            have m3 := hbw.lt
            have hput : Sep w (((w5.setCell ⟨gb + 1, q * 3, none⟩ (.int .i64 (MV.kind ⟨1, z, 0⟩))).setCell ⟨gb + 1, q * 3 + 1, none⟩ (.int .i64 (MV.n ⟨1, z, 0⟩))).setCell ⟨gb + 1, q * 3 + 2, none⟩ (.int .i64 (MV.block ⟨1, z, 0⟩))) [memT b (x.set ⟨1, z, 0⟩ q).s, boxT ga (vCells ⟨2, 0, 1⟩) 34, boxT gb (vCells ⟨2, 0, 2⟩) 34, boxT (gb + 1) (((x.cells.set (q * 3) (.int .i64 (MV.kind ⟨1, z, 0⟩))).set (q * 3 + 1) (.int .i64 (MV.n ⟨1, z, 0⟩))).set (q * 3 + 2) (.int .i64 (MV.block ⟨1, z, 0⟩))) 58] :=
              ((((hs.put 3 rfl (q * 3) (.int .i64 (MV.kind ⟨1, z, 0⟩))).put 3 rfl (q * 3 + 1) (.int .i64 (MV.n ⟨1, z, 0⟩))).put 3 rfl (q * 3 + 2) (.int .i64 (MV.block ⟨1, z, 0⟩)))).take 4
            rw [w8_put x q hq ⟨1, z, 0⟩] at hput
            have H5 := Lib.hid (hput.quiet ((Below.refl _ _).alloc (Nat.le_refl _) (.cells #[.int .i64 0, .int .i64 0, .int .i64 0] 34)))
            clear hs hput hbw e0 e1 e2
            obtain ⟨OM, hOM⟩ := H5.out.mem 0 rfl
            generalize hxx : x.set ⟨1, z, 0⟩ q = xx at *
            clear hxx
            have hq1 : (q : Int) < 8 := by omega
            go_wp2_with fail
            ((with_reducible refine (blocks_any hOM).mono ?_); rintro e w6 ⟨g, qs, rfl, hbk, hb6⟩)
            have H6 := Lib.hid (H5.out.quiet hb6)
            have HBK := Lib.hid hbk
            clear hbk hb6 hOM u0 u1 u2 z0 z1 z2 y0 y1 y2 y3
            go_wp2
            go_loopg [79] 9 (fun m j wx => ∃ jj : Nat, jj ≤ 8 ∧ m + jj = 9 ∧ j = .int .i64 jj ∧ Below w6.heap.size w6 wx)
            case atStart => exact ⟨0, by omega, by omega, rfl, Below.refl _ _⟩
            case round =>
              obtain ⟨jj, hj8, hm9, rfl, hbx⟩ := hrel
              have HX := Lib.hid (H6.out.quiet hbx)
              have HBX := Lib.hid (HBK.out.below hbx)
              have hbx2 := Lib.hid hbx
              clear hbx
              by_cases hj : jj < 8
              · obtain ⟨a, c, ha, hc, hac⟩ : ∃ a c, a < 2 ∧ c < 4 ∧ jj = a * 4 + c := ⟨jj / 4, jj % 4, by omega, by omega, by omega⟩
                obtain ⟨gc, t0, t1, t2, t3⟩ := w8_told HBX.out ha hc
                have t4 := cell_lt t0
                have t5 := cell_lt t1
                rw [← hac] at t1 t2 t3
                have hbw := HX.out.blk 3 rfl
                have v0 := hbw.cell (jj * 3)
                have v1 := hbw.cell (jj * 3 + 1)
                have v2 := hbw.cell (jj * 3 + 2)
                obtain ⟨e0, e1, e2⟩ := w8_get xx jj hj
                rw [e0] at v0
                rw [e1] at v1
                rw [e2] at v2
                have m3 := hbw.lt
                have i1 : (jj : Int) / 4 = (a : Int) := by omega
                have i2 : (jj : Int) % 4 = (c : Int) := by omega
                have i3 : (a : Int) < ((xx.s.length : Nat) : Int) := by show (a : Int) < 2; omega
                have i4 : (jj : Int) < 8 := by omega
                have i5 : (c : Int) < 4 := by omega
                have i6 : a < xx.s.length := by show a < 2; omega
                clear hbw e0 e1 e2 hac
                generalize xx.get jj = vv at *
                go_wp2
                go_quiet (fail)
                go_wp2
                go_roundg (gk - 1)
                case measure => omega
                case rel => exact ⟨jj + 1, by omega, by omega, by go_num, below_drewN hbx2.out _⟩
              · go_wp2
                go_roundw
                case rel => exact ⟨k + 1, xx, by omega, by go_num, HX.out⟩
                case measure => simp [intOf]; omega
          · have hv1 : ¬ (k : Int) < (l1.length : Int) := by omega
            have HQ : Hid (Sep w ((wr.alloc (.cells #[.int .i64 2, .int .i64 ((q : Int) % 4), .int .i64 1] 34)).alloc (.cells #[.int .i64 2, .int .i64 (k : Int), .int .i64 (q : Int)] 34)) [memT b x.s, boxT ga (vCells ⟨2, 0, 1⟩) 34, boxT gb (vCells ⟨2, 0, 2⟩) 34, boxT (gb + 1) x.cells 58, boxT wr.heap.size (vCells ⟨2, (q : Int) % 4, 1⟩) 34, boxT (wr.heap.size + 1) (vCells ⟨2, (k : Int), (q : Int)⟩) 34]) := Lib.hid (by
              have h1 : Sep w (wr.alloc (.cells #[.int .i64 2, .int .i64 ((q : Int) % 4), .int .i64 1] 34)) _ := HR.out.boxV ⟨2, (q : Int) % 4, 1⟩ rfl
              have h2 : Sep w ((wr.alloc (.cells #[.int .i64 2, .int .i64 ((q : Int) % 4), .int .i64 1] 34)).alloc (.cells #[.int .i64 2, .int .i64 (k : Int), .int .i64 (q : Int)] 34)) _ := h1.boxV ⟨2, (k : Int), (q : Int)⟩ rfl
              rw [World.size_alloc] at h2
              exact h2)
            obtain ⟨hf1, hf2⟩ := w8_facts (x := x) hq (v := ⟨2, (k : Int), (q : Int)⟩) hwp rfl
            have HF1 := Lib.hid hf1
            have HF2 := Lib.hid hf2
            have HWP := Lib.hid hwp
            clear hf1 hf2 hwp
            go_wp2_with fail
            ((with_reducible refine (HQ.out.begin 0 rfl ⟨2, (q : Int) % 4, 1⟩ true (w8_rd x) (by decide) HF1.out rfl).mono ?_); rintro e w4 ⟨rfl, hs⟩)
            clear xa0 xa1 xa2 xa3 xb0 xb1 xb2 xb3
            generalize wr.heap.size = gp at *
            obtain ⟨x0, x1, x2, x3⟩ := hs.boxAt 4 rfl
            obtain ⟨y0, y1, y2, y3⟩ := hs.boxAt 5 rfl
            have H4 := Lib.hid hs
            clear hs d0
            go_wp2_with fail
            ((with_reducible refine (H4.out.end 0 rfl ⟨2, (q : Int) % 4, 1⟩ true ⟨2, (k : Int), (q : Int)⟩ (w8_rdm x q) (by decide) HF2.out rfl).mono ?_); rintro e w5 ⟨rfl, hs⟩)
            clear x0 x1 x2 x3 y0 y1 y2 y3
            obtain ⟨y0, y1, y2, y3⟩ := hs.boxAt 5 rfl
            have hbw := hs.blk 3 rfl
            have u0 := hbw.cell (q * 3)
            have u1 := hbw.cell (q * 3 + 1)
            have u2 := hbw.cell (q * 3 + 2)
            obtain ⟨e0, e1, e2⟩ := w8_get x q hq
            rw [e0] at u0
            rw [e1] at u1
            rw [e2] at u2
            have z0 := hbw.frozen (q * 3)
            have z1 := hbw.frozen (q * 3 + 1)
            have z2 := hbw.frozen (q * 3 + 2)
            have m3 := hbw.lt
            have hput : Sep w (((w5.setCell ⟨gb + 1, q * 3, none⟩ (.int .i64 (MV.kind ⟨2, (k : Int), (q : Int)⟩))).setCell ⟨gb + 1, q * 3 + 1, none⟩ (.int .i64 (MV.n ⟨2, (k : Int), (q : Int)⟩))).setCell ⟨gb + 1, q * 3 + 2, none⟩ (.int .i64 (MV.block ⟨2, (k : Int), (q : Int)⟩))) [memT b (x.set ⟨2, (k : Int), (q : Int)⟩ q).s, boxT ga (vCells ⟨2, 0, 1⟩) 34, boxT gb (vCells ⟨2, 0, 2⟩) 34, boxT (gb + 1) (((x.cells.set (q * 3) (.int .i64 (MV.kind ⟨2, (k : Int), (q : Int)⟩))).set (q * 3 + 1) (.int .i64 (MV.n ⟨2, (k : Int), (q : Int)⟩))).set (q * 3 + 2) (.int .i64 (MV.block ⟨2, (k : Int), (q : Int)⟩))) 58] :=
              ((((hs.put 3 rfl (q * 3) (.int .i64 (MV.kind ⟨2, (k : Int), (q : Int)⟩))).put 3 rfl (q * 3 + 1) (.int .i64 (MV.n ⟨2, (k : Int), (q : Int)⟩))).put 3 rfl (q * 3 + 2) (.int .i64 (MV.block ⟨2, (k : Int), (q : Int)⟩)))).take 4
            rw [w8_put x q hq ⟨2, (k : Int), (q : Int)⟩] at hput
            have H5 := Lib.hid (hput.quiet ((Below.refl _ _).alloc (Nat.le_refl _) (.cells #[.int .i64 0, .int .i64 0, .int .i64 0] 34)))
            clear hs hput hbw e0 e1 e2
            obtain ⟨OM, hOM⟩ := H5.out.mem 0 rfl
            generalize hxx : x.set ⟨2, (k : Int), (q : Int)⟩ q = xx at *
            clear hxx
            have hq1 : (q : Int) < 8 := by omega
            go_wp2_with fail
            ((with_reducible refine (blocks_any hOM).mono ?_); rintro e w6 ⟨g, qs, rfl, hbk, hb6⟩)
            have H6 := Lib.hid (H5.out.quiet hb6)
            have HBK := Lib.hid hbk
            clear hbk hb6 hOM u0 u1 u2 z0 z1 z2 y0 y1 y2 y3
            go_wp2
            go_loopg [79] 9 (fun m j wx => ∃ jj : Nat, jj ≤ 8 ∧ m + jj = 9 ∧ j = .int .i64 jj ∧ Below w6.heap.size w6 wx)
            case atStart => exact ⟨0, by omega, by omega, rfl, Below.refl _ _⟩
            case round =>
              obtain ⟨jj, hj8, hm9, rfl, hbx⟩ := hrel
              have HX := Lib.hid (H6.out.quiet hbx)
              have HBX := Lib.hid (HBK.out.below hbx)
              have hbx2 := Lib.hid hbx
              clear hbx
              by_cases hj : jj < 8
              · obtain ⟨a, c, ha, hc, hac⟩ : ∃ a c, a < 2 ∧ c < 4 ∧ jj = a * 4 + c := ⟨jj / 4, jj % 4, by omega, by omega, by omega⟩
                obtain ⟨gc, t0, t1, t2, t3⟩ := w8_told HBX.out ha hc
                have t4 := cell_lt t0
                have t5 := cell_lt t1
                rw [← hac] at t1 t2 t3
                have hbw := HX.out.blk 3 rfl
                have v0 := hbw.cell (jj * 3)
                have v1 := hbw.cell (jj * 3 + 1)
                have v2 := hbw.cell (jj * 3 + 2)
                obtain ⟨e0, e1, e2⟩ := w8_get xx jj hj
                rw [e0] at v0
                rw [e1] at v1
                rw [e2] at v2
                have m3 := hbw.lt
                have i1 : (jj : Int) / 4 = (a : Int) := by omega
                have i2 : (jj : Int) % 4 = (c : Int) := by omega
                have i3 : (a : Int) < ((xx.s.length : Nat) : Int) := by show (a : Int) < 2; omega
                have i4 : (jj : Int) < 8 := by omega
                have i5 : (c : Int) < 4 := by omega
                have i6 : a < xx.s.length := by show a < 2; omega
                clear hbw e0 e1 e2 hac
                generalize xx.get jj = vv at *
                go_wp2
                go_quiet (fail)
                go_wp2
                go_roundg (gk - 1)
                case measure => omega
                case rel => exact ⟨jj + 1, by omega, by omega, by go_num, below_drewN hbx2.out _⟩
              · go_wp2
                go_roundw
                case rel => exact ⟨k + 1, xx, by omega, by go_num, HX.out⟩
                case measure => simp [intOf]; omega
        · have d3 : decide ((3 : Int) < (q : Int)) = true := by rw [decide_eq_true_eq]; omega
          have hwp := wp_hi h4 hq
          by_cases hv : k < l1.length
          · obtain ⟨fb, fo, rfl, f0⟩ := HL1.out.at HR.out.below hv
            have hv1 : (k : Int) < (l1.length : Int) := by omega
            have fl := cell_lt f0
            generalize l1.getD k 0 = z at *
            have HQ : Hid (Sep w ((wr.alloc (.cells #[.int .i64 2, .int .i64 ((q : Int) % 4), .int .i64 2] 34)).alloc (.cells #[.int .i64 1, .int .i64 z, .int .i64 0] 34)) [memT b x.s, boxT ga (vCells ⟨2, 0, 1⟩) 34, boxT gb (vCells ⟨2, 0, 2⟩) 34, boxT (gb + 1) x.cells 58, boxT wr.heap.size (vCells ⟨2, (q : Int) % 4, 2⟩) 34, boxT (wr.heap.size + 1) (vCells ⟨1, z, 0⟩) 34]) := Lib.hid (by
              have h1 : Sep w (wr.alloc (.cells #[.int .i64 2, .int .i64 ((q : Int) % 4), .int .i64 2] 34)) _ := HR.out.boxV ⟨2, (q : Int) % 4, 2⟩ rfl
              have h2 : Sep w ((wr.alloc (.cells #[.int .i64 2, .int .i64 ((q : Int) % 4), .int .i64 2] 34)).alloc (.cells #[.int .i64 1, .int .i64 z, .int .i64 0] 34)) _ := h1.boxV ⟨1, z, 0⟩ rfl
              rw [World.size_alloc] at h2
              exact h2)
            obtain ⟨hf1, hf2⟩ := w8_facts (x := x) hq (v := ⟨1, z, 0⟩) hwp rfl
            have HF1 := Lib.hid hf1
            have HF2 := Lib.hid hf2
            have HWP := Lib.hid hwp
            clear hf1 hf2 hwp
            go_wp2_with fail
            ((with_reducible refine (HQ.out.begin 0 rfl ⟨2, (q : Int) % 4, 2⟩ true (w8_rd x) (by decide) HF1.out rfl).mono ?_); rintro e w4 ⟨rfl, hs⟩)
            clear xa0 xa1 xa2 xa3 xb0 xb1 xb2 xb3
            generalize wr.heap.size = gp at *
            obtain ⟨x0, x1, x2, x3⟩ := hs.boxAt 4 rfl
            obtain ⟨y0, y1, y2, y3⟩ := hs.boxAt 5 rfl
            have H4 := Lib.hid hs
            clear hs d0
            go_wp2_with fail
            ((with_reducible refine (H4.out.end 0 rfl ⟨2, (q : Int) % 4, 2⟩ true ⟨1, z, 0⟩ (w8_rdm x q) (by decide) HF2.out rfl).mono ?_); rintro e w5 ⟨rfl, hs⟩)
            clear x0 x1 x2 x3 y0 y1 y2 y3
            obtain ⟨y0, y1, y2, y3⟩ := hs.boxAt 5 rfl
            have hbw := hs.blk 3 rfl
            have u0 := hbw.cell (q * 3)
            have u1 := hbw.cell (q * 3 + 1)
            have u2 := hbw.cell (q * 3 + 2)
            obtain ⟨e0, e1, e2⟩ := w8_get x q hq
            rw [e0] at u0
            rw [e1] at u1
            rw [e2] at u2
            have z0 := hbw.frozen (q * 3)
            have z1 := hbw.frozen (q * 3 + 1)
            have z2 := hbw.frozen (q * 3 + 2)
            have m3 := hbw.lt
            have hput : Sep w (((w5.setCell ⟨gb + 1, q * 3, none⟩ (.int .i64 (MV.kind ⟨1, z, 0⟩))).setCell ⟨gb + 1, q * 3 + 1, none⟩ (.int .i64 (MV.n ⟨1, z, 0⟩))).setCell ⟨gb + 1, q * 3 + 2, none⟩ (.int .i64 (MV.block ⟨1, z, 0⟩))) [memT b (x.set ⟨1, z, 0⟩ q).s, boxT ga (vCells ⟨2, 0, 1⟩) 34, boxT gb (vCells ⟨2, 0, 2⟩) 34, boxT (gb + 1) (((x.cells.set (q * 3) (.int .i64 (MV.kind ⟨1, z, 0⟩))).set (q * 3 + 1) (.int .i64 (MV.n ⟨1, z, 0⟩))).set (q * 3 + 2) (.int .i64 (MV.block ⟨1, z, 0⟩))) 58] :=
              ((((hs.put 3 rfl (q * 3) (.int .i64 (MV.kind ⟨1, z, 0⟩))).put 3 rfl (q * 3 + 1) (.int .i64 (MV.n ⟨1, z, 0⟩))).put 3 rfl (q * 3 + 2) (.int .i64 (MV.block ⟨1, z, 0⟩)))).take 4
            rw [w8_put x q hq ⟨1, z, 0⟩] at hput
            have H5 := Lib.hid (hput.quiet ((Below.refl _ _).alloc (Nat.le_refl _) (.cells #[.int .i64 0, .int .i64 0, .int .i64 0] 34)))
            clear hs hput hbw e0 e1 e2
            obtain ⟨OM, hOM⟩ := H5.out.mem 0 rfl
            generalize hxx : x.set ⟨1, z, 0⟩ q = xx at *
            clear hxx
            have hq1 : (q : Int) < 8 := by omega
            go_wp2_with fail
            ((with_reducible refine (blocks_any hOM).mono ?_); rintro e w6 ⟨g, qs, rfl, hbk, hb6⟩)
            have H6 := Lib.hid (H5.out.quiet hb6)
            have HBK := Lib.hid hbk
            clear hbk hb6 hOM u0 u1 u2 z0 z1 z2 y0 y1 y2 y3
            go_wp2
            go_loopg [79] 9 (fun m j wx => ∃ jj : Nat, jj ≤ 8 ∧ m + jj = 9 ∧ j = .int .i64 jj ∧ Below w6.heap.size w6 wx)
            case atStart => exact ⟨0, by omega, by omega, rfl, Below.refl _ _⟩
            case round =>
              obtain ⟨jj, hj8, hm9, rfl, hbx⟩ := hrel
              have HX := Lib.hid (H6.out.quiet hbx)
              have HBX := Lib.hid (HBK.out.below hbx)
              have hbx2 := Lib.hid hbx
              clear hbx
              by_cases hj : jj < 8
              · obtain ⟨a, c, ha, hc, hac⟩ : ∃ a c, a < 2 ∧ c < 4 ∧ jj = a * 4 + c := ⟨jj / 4, jj % 4, by omega, by omega, by omega⟩
                obtain ⟨gc, t0, t1, t2, t3⟩ := w8_told HBX.out ha hc
                have t4 := cell_lt t0
                have t5 := cell_lt t1
                rw [← hac] at t1 t2 t3
                have hbw := HX.out.blk 3 rfl
                have v0 := hbw.cell (jj * 3)
                have v1 := hbw.cell (jj * 3 + 1)
                have v2 := hbw.cell (jj * 3 + 2)
                obtain ⟨e0, e1, e2⟩ := w8_get xx jj hj
                rw [e0] at v0
                rw [e1] at v1
                rw [e2] at v2
                have m3 := hbw.lt
                have i1 : (jj : Int) / 4 = (a : Int) := by omega
                have i2 : (jj : Int) % 4 = (c : Int) := by omega
                have i3 : (a : Int) < ((xx.s.length : Nat) : Int) := by show (a : Int) < 2; omega
                have i4 : (jj : Int) < 8 := by omega
                have i5 : (c : Int) < 4 := by omega
                have i6 : a < xx.s.length := by show a < 2; omega
                clear hbw e0 e1 e2 hac
                generalize xx.get jj = vv at *
                go_wp2
                go_quiet (fail)
                go_wp2
                go_roundg (gk - 1)
                case measure => omega
                case rel => exact ⟨jj + 1, by omega, by omega, by go_num, below_drewN hbx2.out _⟩
              · go_wp2
                go_roundw
                case rel => exact ⟨k + 1, xx, by omega, by go_num, HX.out⟩
                case measure => simp [intOf]; omega
          · have hv1 : ¬ (k : Int) < (l1.length : Int) := by omega
            have HQ : Hid (Sep w ((wr.alloc (.cells #[.int .i64 2, .int .i64 ((q : Int) % 4), .int .i64 2] 34)).alloc (.cells #[.int .i64 2, .int .i64 (k : Int), .int .i64 (q : Int)] 34)) [memT b x.s, boxT ga (vCells ⟨2, 0, 1⟩) 34, boxT gb (vCells ⟨2, 0, 2⟩) 34, boxT (gb + 1) x.cells 58, boxT wr.heap.size (vCells ⟨2, (q : Int) % 4, 2⟩) 34, boxT (wr.heap.size + 1) (vCells ⟨2, (k : Int), (q : Int)⟩) 34]) := Lib.hid (by
              have h1 : Sep w (wr.alloc (.cells #[.int .i64 2, .int .i64 ((q : Int) % 4), .int .i64 2] 34)) _ := HR.out.boxV ⟨2, (q : Int) % 4, 2⟩ rfl
              have h2 : Sep w ((wr.alloc (.cells #[.int .i64 2, .int .i64 ((q : Int) % 4), .int .i64 2] 34)).alloc (.cells #[.int .i64 2, .int .i64 (k : Int), .int .i64 (q : Int)] 34)) _ := h1.boxV ⟨2, (k : Int), (q : Int)⟩ rfl
              rw [World.size_alloc] at h2
              exact h2)
            obtain ⟨hf1, hf2⟩ := w8_facts (x := x) hq (v := ⟨2, (k : Int), (q : Int)⟩) hwp rfl
            have HF1 := Lib.hid hf1
            have HF2 := Lib.hid hf2
            have HWP := Lib.hid hwp
            clear hf1 hf2 hwp
            go_wp2_with fail
            ((with_reducible refine (HQ.out.begin 0 rfl ⟨2, (q : Int) % 4, 2⟩ true (w8_rd x) (by decide) HF1.out rfl).mono ?_); rintro e w4 ⟨rfl, hs⟩)
            clear xa0 xa1 xa2 xa3 xb0 xb1 xb2 xb3
            generalize wr.heap.size = gp at *
            obtain ⟨x0, x1, x2, x3⟩ := hs.boxAt 4 rfl
            obtain ⟨y0, y1, y2, y3⟩ := hs.boxAt 5 rfl
            have H4 := Lib.hid hs
            clear hs d0
            go_wp2_with fail
            ((with_reducible refine (H4.out.end 0 rfl ⟨2, (q : Int) % 4, 2⟩ true ⟨2, (k : Int), (q : Int)⟩ (w8_rdm x q) (by decide) HF2.out rfl).mono ?_); rintro e w5 ⟨rfl, hs⟩)
            clear x0 x1 x2 x3 y0 y1 y2 y3
            obtain ⟨y0, y1, y2, y3⟩ := hs.boxAt 5 rfl
            have hbw := hs.blk 3 rfl
            have u0 := hbw.cell (q * 3)
            have u1 := hbw.cell (q * 3 + 1)
            have u2 := hbw.cell (q * 3 + 2)
            obtain ⟨e0, e1, e2⟩ := w8_get x q hq
            rw [e0] at u0
            rw [e1] at u1
            rw [e2] at u2
            have z0 := hbw.frozen (q * 3)
            have z1 := hbw.frozen (q * 3 + 1)
            have z2 := hbw.frozen (q * 3 + 2)
            have m3 := hbw.lt
            have hput : Sep w (((w5.setCell ⟨gb + 1, q * 3, none⟩ (.int .i64 (MV.kind ⟨2, (k : Int), (q : Int)⟩))).setCell ⟨gb + 1, q * 3 + 1, none⟩ (.int .i64 (MV.n ⟨2, (k : Int), (q : Int)⟩))).setCell ⟨gb + 1, q * 3 + 2, none⟩ (.int .i64 (MV.block ⟨2, (k : Int), (q : Int)⟩))) [memT b (x.set ⟨2, (k : Int), (q : Int)⟩ q).s, boxT ga (vCells ⟨2, 0, 1⟩) 34, boxT gb (vCells ⟨2, 0, 2⟩) 34, boxT (gb + 1) (((x.cells.set (q * 3) (.int .i64 (MV.kind ⟨2, (k : Int), (q : Int)⟩))).set (q * 3 + 1) (.int .i64 (MV.n ⟨2, (k : Int), (q : Int)⟩))).set (q * 3 + 2) (.int .i64 (MV.block ⟨2, (k : Int), (q : Int)⟩))) 58] :=
              ((((hs.put 3 rfl (q * 3) (.int .i64 (MV.kind ⟨2, (k : Int), (q : Int)⟩))).put 3 rfl (q * 3 + 1) (.int .i64 (MV.n ⟨2, (k : Int), (q : Int)⟩))).put 3 rfl (q * 3 + 2) (.int .i64 (MV.block ⟨2, (k : Int), (q : Int)⟩)))).take 4
            rw [w8_put x q hq ⟨2, (k : Int), (q : Int)⟩] at hput
            have H5 := Lib.hid (hput.quiet ((Below.refl _ _).alloc (Nat.le_refl _) (.cells #[.int .i64 0, .int .i64 0, .int .i64 0] 34)))
            clear hs hput hbw e0 e1 e2
            obtain ⟨OM, hOM⟩ := H5.out.mem 0 rfl
            generalize hxx : x.set ⟨2, (k : Int), (q : Int)⟩ q = xx at *
            clear hxx
            have hq1 : (q : Int) < 8 := by omega
            go_wp2_with fail
            ((with_reducible refine (blocks_any hOM).mono ?_); rintro e w6 ⟨g, qs, rfl, hbk, hb6⟩)
            have H6 := Lib.hid (H5.out.quiet hb6)
            have HBK := Lib.hid hbk
            clear hbk hb6 hOM u0 u1 u2 z0 z1 z2 y0 y1 y2 y3
            go_wp2
            go_loopg [79] 9 (fun m j wx => ∃ jj : Nat, jj ≤ 8 ∧ m + jj = 9 ∧ j = .int .i64 jj ∧ Below w6.heap.size w6 wx)
            case atStart => exact ⟨0, by omega, by omega, rfl, Below.refl _ _⟩
            case round =>
              obtain ⟨jj, hj8, hm9, rfl, hbx⟩ := hrel
              have HX := Lib.hid (H6.out.quiet hbx)
              have HBX := Lib.hid (HBK.out.below hbx)
              have hbx2 := Lib.hid hbx
              clear hbx
              by_cases hj : jj < 8
              · obtain ⟨a, c, ha, hc, hac⟩ : ∃ a c, a < 2 ∧ c < 4 ∧ jj = a * 4 + c := ⟨jj / 4, jj % 4, by omega, by omega, by omega⟩
                obtain ⟨gc, t0, t1, t2, t3⟩ := w8_told HBX.out ha hc
                have t4 := cell_lt t0
                have t5 := cell_lt t1
                rw [← hac] at t1 t2 t3
                have hbw := HX.out.blk 3 rfl
                have v0 := hbw.cell (jj * 3)
                have v1 := hbw.cell (jj * 3 + 1)
                have v2 := hbw.cell (jj * 3 + 2)
                obtain ⟨e0, e1, e2⟩ := w8_get xx jj hj
                rw [e0] at v0
                rw [e1] at v1
                rw [e2] at v2
                have m3 := hbw.lt
                have i1 : (jj : Int) / 4 = (a : Int) := by omega
                have i2 : (jj : Int) % 4 = (c : Int) := by omega
                have i3 : (a : Int) < ((xx.s.length : Nat) : Int) := by show (a : Int) < 2; omega
                have i4 : (jj : Int) < 8 := by omega
                have i5 : (c : Int) < 4 := by omega
                have i6 : a < xx.s.length := by show a < 2; omega
                clear hbw e0 e1 e2 hac
                generalize xx.get jj = vv at *
                go_wp2
                go_quiet (fail)
                go_wp2
                go_roundg (gk - 1)
                case measure => omega
                case rel => exact ⟨jj + 1, by omega, by omega, by go_num, below_drewN hbx2.out _⟩
              · go_wp2
                go_roundw
                case rel => exact ⟨k + 1, xx, by omega, by go_num, HX.out⟩
                case measure => simp [intOf]; omega
    · have HR := Lib.hid hs
      clear hs
      go_wp2
      go_ret
      exact ⟨rfl, HR.out.below⟩

theorem memWrites_reads (os : Os) {H : Type} (enc : TypeId × Value → H) : ∃ places, DataW.whole enc Try.prog ((World.holding Try.prog os ⟨#[], #[], []⟩).forCall (fun _ _ => 0) ⟨#[], #[Value.slice none 0 0, Value.slice none 0 0], []⟩).memory Try.f6.params.toList Rows.memWritesSpec.vars false #[Value.slice none 0 0, Value.slice none 0 0].toList 8 = some ([.nil, .nil], [], places) :=
  ⟨[], by kernel_rfl⟩

set_option maxRecDepth 100000 in
theorem memWrites_lifted (os : Os) (started : os.Started) (H : Type) (enc : TypeId × Value → H) (F : Stop.Interp) :
    ReturnsInHanded {} Try.checked os 6 .any ((OpenSpec.ofChange Rows.memWritesSpec).preRow enc Try.prog Try.f6 Rows.memWritesRow.domain false Rows.memWritesRow.laid) (((OpenSpec.ofChange Rows.memWritesSpec).at F).post enc Try.prog Try.f6 false true false false) := by
  obtain ⟨places, hx⟩ := memWrites_reads os enc
  refine returnsInHanded_of_row (C := Try.checked) (s := OpenSpec.ofChange Rows.memWritesSpec) own started (by kernel_rfl) Try.func6
    (witness_row_at (enc := enc) (C := Try.checked) false (World.holding Try.prog os ⟨#[], #[], []⟩) #[Value.slice none 0 0, Value.slice none 0 0] rfl (by kernel_rfl) (by kernel_rfl) (by kernel_rfl)
      (OpenSpec.preRow_of_cond 8 hx (by kernel_rfl) (fun k hk => by cases hk) (by kernel_rfl) (laidMet_of_run' 8 (by kernel_rfl) (by kernel_rfl)))) ?_
  intro W base args ds gs before hval hW _ _ hreach _ _ _
  exact intsNums_contract Try.params6 (by kernel_rfl) rfl (fun _ _ => rfl) memWrites_walk W base args ds gs before hval hW hreach

theorem memWrites_said : Rows.MemWritesSaid :=
  OpenClaim.holds_of_cond 6 Try.f6 rfl rfl rfl rfl rfl rfl rfl ⟨rfl, rfl, rfl, rfl, rfl⟩ rfl rfl rfl rfl rfl (by kernel_rfl) Try.func6 (by kernel_rfl)
    (of_decide_eq_true (by kernel_rfl)) (by unfold Func.isWrapper; first | (rw [if_pos (by decide +kernel)]; kernel_rfl) | (rw [if_neg (by decide +kernel)]; exact ⟨rfl, rfl⟩))
    (fun os started H enc _ F => by rw [OpenClaim.pre_eq_preRow]; exact memWrites_lifted os started H enc F)

end Go.Proofs.Yteepocmdgkngeaa
