/- The contract of lychgatelaw06.sameMemory: what Blocks told is the document's own memory. -/
import Derived.Test.YtnjndggdnmboeaaMRefCalls
import Derived.Test.YtnjndggdnmboeaaMBlocks
import Derived.Deep.RegionHeld3
namespace Go.Proofs.Ytnjndggdnmboeaa
open Go.RowKit

theorem offS_succ (s : MS) (k : Nat) (a : MB) (h : s[k]? = some a) : offS s (k + 1) = offS s k + a.cells.length := by
  induction s generalizing k with
  | nil => simp at h
  | cons b s ih =>
    cases k with
    | zero => simp only [List.getElem?_cons_zero, Option.some.injEq] at h; subst h; cases s <;> simp [offS]
    | succ k => simp only [offS]; rw [ih k (by simpa using h)]; omega
theorem offS_zero (s : MS) : offS s 0 = 0 := by cases s <;> rfl

theorem rcs_off (i : Nat) (s : MS) (k : Nat) : offS s k ≤ (rcs i s).length := by
  induction s generalizing i k with
  | nil => cases k <;> simp [offS]
  | cons b s ih =>
    cases k with
    | zero => simp [offS]
    | succ k => simp only [offS, rcs, List.length_append, rowR_length]; have := ih (i + 1) k; omega

theorem BlocksIs.at {w : World} {B g : Nat} {s : MS} {qs : List G3} (h : BlocksIs w B g s qs) {k : Nat} {a : MB} (ha : s[k]? = some a) : ∃ q : G3, Hid (ToldAt w B a q) ∧
    w.cell? ⟨g, k * 4, none⟩ = some (.bool a.live) ∧ w.cell? ⟨g, k * 4 + 1, none⟩ = some (.slice (some ⟨q.c, 0, none⟩) a.cells.length a.cells.length) ∧ w.cell? ⟨g, k * 4 + 2, none⟩ = some (.slice (some ⟨q.r, 0, none⟩) a.cells.length a.cells.length) ∧ w.cell? ⟨g, k * 4 + 3, none⟩ = some (.slice (some ⟨q.w, 0, none⟩) a.cells.length a.cells.length) ∧ g < w.heap.size := by
  have hk := (List.getElem?_eq_some_iff.1 ha).1
  have hq : qs[k]? = some (qs[k]'(by rw [h.len]; exact hk)) := List.getElem?_eq_getElem _
  refine ⟨_, Lib.hid (h.told k _ _ ha hq), ?_, ?_, ?_, ?_, h.row.lt⟩
  · exact (h.row.cell (k * 4 + 0)).trans (tRow_get ha hq 0 (by omega))
  · exact (h.row.cell (k * 4 + 1)).trans (tRow_get ha hq 1 (by omega))
  · exact (h.row.cell (k * 4 + 2)).trans (tRow_get ha hq 2 (by omega))
  · exact (h.row.cell (k * 4 + 3)).trans (tRow_get ha hq 3 (by omega))
theorem ToldAt.at {w : World} {B : Nat} {a : MB} {q : G3} (h : ToldAt w B a q) {j : Nat} {c : MC} (hc : a.cells[j]? = some c) :
    w.cell? ⟨q.c, j * 3, none⟩ = some (.int .i64 c.v.kind) ∧ w.cell? ⟨q.c, j * 3 + 1, none⟩ = some (.int .i64 c.v.n) ∧ w.cell? ⟨q.c, j * 3 + 2, none⟩ = some (.int .i64 c.v.block) ∧ w.cell? ⟨q.r, j, none⟩ = some (.int .i64 c.r) ∧ w.cell? ⟨q.w, j, none⟩ = some (.bool c.w) ∧ q.c < w.heap.size ∧ q.r < w.heap.size ∧ q.w < w.heap.size := by
  refine ⟨?_, ?_, ?_, ?_, ?_, h.c.lt, h.r.lt, h.w.lt⟩
  · exact (h.c.cell (j * 3 + 0)).trans (gRow_get fV_len hc 0 (by omega))
  · exact (h.c.cell (j * 3 + 1)).trans (gRow_get fV_len hc 1 (by omega))
  · exact (h.c.cell (j * 3 + 2)).trans (gRow_get fV_len hc 2 (by omega))
  · have := (h.r.cell (j * 1 + 0)).trans (gRow_get fR_len hc 0 (by omega))
    rw [Nat.mul_one] at this
    exact this
  · have := (h.w.cell (j * 1 + 0)).trans (gRow_get fW_len hc 0 (by omega))
    rw [Nat.mul_one] at this
    exact this
theorem RefIs.sizeAt {w : World} {b : Nat} {vl vs vc : Value} {s : MS} (h : RefIs w b vl vs vc s) {k : Nat} {a : MB} (ha : s[k]? = some a) : ∃ g cap, vs = .slice (some ⟨g, 0, none⟩) s.length cap ∧ w.cell? ⟨g, k, none⟩ = some (.int .i64 (a.cells.length : Int)) ∧ g < w.heap.size := by
  have hk := (List.getElem?_eq_some_iff.1 ha).1
  obtain ⟨g, cap, rfl, _, _⟩ := row_pos h.sizes (by omega)
  refine ⟨g, cap, rfl, ?_, row_lt h.sizes rfl⟩
  rw [h.sizes.cellAt k (by omega)]
  unfold zRowS
  rw [List.getElem?_map, ha]
  rfl
theorem bool_ne_self (b : Bool) : (b != b) = false := by cases b <;> rfl

theorem cell_lt' {W : World} {b i : Nat} {v : Value} (h : W.cell? ⟨b, i, none⟩ = some v) : b < W.heap.size := by
  unfold World.cell? at h
  cases hg : W.heap[b]? with
  | none => rw [hg] at h; cases h
  | some o => exact (Array.getElem?_eq_some_iff.1 hg).1
theorem cell_below {w w' : World} (hb : Below w.heap.size w w') {g o : Nat} {v : Value} (h : w.cell? ⟨g, o, none⟩ = some v) : w'.cell? ⟨g, o, none⟩ = some v := (hb.cell (p := ⟨g, o, none⟩) (cell_lt' h)).trans h
theorem held13 {w w' : World} (hb : Below w.heap.size w w') {gb ge j n : Nat} {q : G3} {c : MC} (h : w.cell? ⟨gb, 1, none⟩ = some (.slice (some ⟨q.c, 0, none⟩) n n) ∧ w.cell? ⟨gb, 2, none⟩ = some (.slice (some ⟨q.r, 0, none⟩) n n) ∧ w.cell? ⟨gb, 3, none⟩ = some (.slice (some ⟨q.w, 0, none⟩) n n) ∧ w.cell? ⟨q.c, j * 3, none⟩ = some (.int .i64 c.v.kind) ∧ w.cell? ⟨q.c, j * 3 + 1, none⟩ = some (.int .i64 c.v.n) ∧ w.cell? ⟨q.c, j * 3 + 2, none⟩ = some (.int .i64 c.v.block) ∧ w.cell? ⟨q.r, j, none⟩ = some (.int .i64 c.r) ∧ w.cell? ⟨q.w, j, none⟩ = some (.bool c.w) ∧ w.cell? ⟨ge, 2, none⟩ = some (.int .i64 c.v.kind) ∧ w.cell? ⟨ge, 3, none⟩ = some (.int .i64 c.v.n) ∧ w.cell? ⟨ge, 4, none⟩ = some (.int .i64 c.v.block) ∧ w.cell? ⟨ge, 5, none⟩ = some (.int .i64 c.r) ∧ w.cell? ⟨ge, 6, none⟩ = some (.bool c.w)) : w'.cell? ⟨gb, 1, none⟩ = some (.slice (some ⟨q.c, 0, none⟩) n n) ∧ w'.cell? ⟨gb, 2, none⟩ = some (.slice (some ⟨q.r, 0, none⟩) n n) ∧ w'.cell? ⟨gb, 3, none⟩ = some (.slice (some ⟨q.w, 0, none⟩) n n) ∧ w'.cell? ⟨q.c, j * 3, none⟩ = some (.int .i64 c.v.kind) ∧ w'.cell? ⟨q.c, j * 3 + 1, none⟩ = some (.int .i64 c.v.n) ∧ w'.cell? ⟨q.c, j * 3 + 2, none⟩ = some (.int .i64 c.v.block) ∧ w'.cell? ⟨q.r, j, none⟩ = some (.int .i64 c.r) ∧ w'.cell? ⟨q.w, j, none⟩ = some (.bool c.w) ∧ w'.cell? ⟨ge, 2, none⟩ = some (.int .i64 c.v.kind) ∧ w'.cell? ⟨ge, 3, none⟩ = some (.int .i64 c.v.n) ∧ w'.cell? ⟨ge, 4, none⟩ = some (.int .i64 c.v.block) ∧ w'.cell? ⟨ge, 5, none⟩ = some (.int .i64 c.r) ∧ w'.cell? ⟨ge, 6, none⟩ = some (.bool c.w) := by
  obtain ⟨h1, h2, h3, h4, h5, h6, h7, h8, h9, h10, h11, h12, h13⟩ := h
  exact ⟨cell_below hb h1, cell_below hb h2, cell_below hb h3, cell_below hb h4, cell_below hb h5, cell_below hb h6, cell_below hb h7, cell_below hb h8, cell_below hb h9, cell_below hb h10, cell_below hb h11, cell_below hb h12, cell_below hb h13⟩

theorem held13_new {w : World} {gb ge j n k : Nat} {q : G3} {c : MC} (h0 : w.cell? ⟨gb, 1, none⟩ = some (.slice (some ⟨q.c, 0, none⟩) n n)) (h1 : w.cell? ⟨gb, 2, none⟩ = some (.slice (some ⟨q.r, 0, none⟩) n n)) (h2 : w.cell? ⟨gb, 3, none⟩ = some (.slice (some ⟨q.w, 0, none⟩) n n)) (h3 : w.cell? ⟨q.c, j * 3, none⟩ = some (.int .i64 c.v.kind)) (h4 : w.cell? ⟨q.c, j * 3 + 1, none⟩ = some (.int .i64 c.v.n)) (h5 : w.cell? ⟨q.c, j * 3 + 2, none⟩ = some (.int .i64 c.v.block)) (h6 : w.cell? ⟨q.r, j, none⟩ = some (.int .i64 c.r)) (h7 : w.cell? ⟨q.w, j, none⟩ = some (.bool c.w)) (he : w.heap.size = ge) :
    ((w.alloc (.cells #[.int .i64 ((k : Int) + 1), .int .i64 (j : Int), .int .i64 c.v.kind, .int .i64 c.v.n, .int .i64 c.v.block, .int .i64 c.r, .bool c.w] 72)).drew).cell? ⟨gb, 1, none⟩ = some (.slice (some ⟨q.c, 0, none⟩) n n) ∧ ((w.alloc (.cells #[.int .i64 ((k : Int) + 1), .int .i64 (j : Int), .int .i64 c.v.kind, .int .i64 c.v.n, .int .i64 c.v.block, .int .i64 c.r, .bool c.w] 72)).drew).cell? ⟨gb, 2, none⟩ = some (.slice (some ⟨q.r, 0, none⟩) n n) ∧ ((w.alloc (.cells #[.int .i64 ((k : Int) + 1), .int .i64 (j : Int), .int .i64 c.v.kind, .int .i64 c.v.n, .int .i64 c.v.block, .int .i64 c.r, .bool c.w] 72)).drew).cell? ⟨gb, 3, none⟩ = some (.slice (some ⟨q.w, 0, none⟩) n n) ∧ ((w.alloc (.cells #[.int .i64 ((k : Int) + 1), .int .i64 (j : Int), .int .i64 c.v.kind, .int .i64 c.v.n, .int .i64 c.v.block, .int .i64 c.r, .bool c.w] 72)).drew).cell? ⟨q.c, j * 3, none⟩ = some (.int .i64 c.v.kind) ∧ ((w.alloc (.cells #[.int .i64 ((k : Int) + 1), .int .i64 (j : Int), .int .i64 c.v.kind, .int .i64 c.v.n, .int .i64 c.v.block, .int .i64 c.r, .bool c.w] 72)).drew).cell? ⟨q.c, j * 3 + 1, none⟩ = some (.int .i64 c.v.n) ∧ ((w.alloc (.cells #[.int .i64 ((k : Int) + 1), .int .i64 (j : Int), .int .i64 c.v.kind, .int .i64 c.v.n, .int .i64 c.v.block, .int .i64 c.r, .bool c.w] 72)).drew).cell? ⟨q.c, j * 3 + 2, none⟩ = some (.int .i64 c.v.block) ∧ ((w.alloc (.cells #[.int .i64 ((k : Int) + 1), .int .i64 (j : Int), .int .i64 c.v.kind, .int .i64 c.v.n, .int .i64 c.v.block, .int .i64 c.r, .bool c.w] 72)).drew).cell? ⟨q.r, j, none⟩ = some (.int .i64 c.r) ∧ ((w.alloc (.cells #[.int .i64 ((k : Int) + 1), .int .i64 (j : Int), .int .i64 c.v.kind, .int .i64 c.v.n, .int .i64 c.v.block, .int .i64 c.r, .bool c.w] 72)).drew).cell? ⟨q.w, j, none⟩ = some (.bool c.w) ∧ ((w.alloc (.cells #[.int .i64 ((k : Int) + 1), .int .i64 (j : Int), .int .i64 c.v.kind, .int .i64 c.v.n, .int .i64 c.v.block, .int .i64 c.r, .bool c.w] 72)).drew).cell? ⟨ge, 2, none⟩ = some (.int .i64 c.v.kind) ∧ ((w.alloc (.cells #[.int .i64 ((k : Int) + 1), .int .i64 (j : Int), .int .i64 c.v.kind, .int .i64 c.v.n, .int .i64 c.v.block, .int .i64 c.r, .bool c.w] 72)).drew).cell? ⟨ge, 3, none⟩ = some (.int .i64 c.v.n) ∧ ((w.alloc (.cells #[.int .i64 ((k : Int) + 1), .int .i64 (j : Int), .int .i64 c.v.kind, .int .i64 c.v.n, .int .i64 c.v.block, .int .i64 c.r, .bool c.w] 72)).drew).cell? ⟨ge, 4, none⟩ = some (.int .i64 c.v.block) ∧ ((w.alloc (.cells #[.int .i64 ((k : Int) + 1), .int .i64 (j : Int), .int .i64 c.v.kind, .int .i64 c.v.n, .int .i64 c.v.block, .int .i64 c.r, .bool c.w] 72)).drew).cell? ⟨ge, 5, none⟩ = some (.int .i64 c.r) ∧ ((w.alloc (.cells #[.int .i64 ((k : Int) + 1), .int .i64 (j : Int), .int .i64 c.v.kind, .int .i64 c.v.n, .int .i64 c.v.block, .int .i64 c.r, .bool c.w] 72)).drew).cell? ⟨ge, 6, none⟩ = some (.bool c.w) := by
  subst he
  have hb : Below w.heap.size w ((w.alloc (.cells #[.int .i64 ((k : Int) + 1), .int .i64 (j : Int), .int .i64 c.v.kind, .int .i64 c.v.n, .int .i64 c.v.block, .int .i64 c.r, .bool c.w] 72)).drew) := ((Below.refl _ _).alloc (Nat.le_refl _) _).drew
  have hn : Blk ((w.alloc (.cells #[.int .i64 ((k : Int) + 1), .int .i64 (j : Int), .int .i64 c.v.kind, .int .i64 c.v.n, .int .i64 c.v.block, .int .i64 c.r, .bool c.w] 72)).drew) w.heap.size _ _ := Blk.new w [.int .i64 ((k : Int) + 1), .int .i64 (j : Int), .int .i64 c.v.kind, .int .i64 c.v.n, .int .i64 c.v.block, .int .i64 c.r, .bool c.w] 72
  exact ⟨cell_below hb h0, cell_below hb h1, cell_below hb h2, cell_below hb h3, cell_below hb h4, cell_below hb h5, cell_below hb h6, cell_below hb h7, hn.cell 2, hn.cell 3, hn.cell 4, hn.cell 5, hn.cell 6⟩

set_option maxRecDepth 100000 in
set_option maxHeartbeats 4000000 in
theorem same_any {w : World} {B g r : Nat} {s : MS} {qs : List G3} {O : Nat → Prop} (hB : BlocksIs w B g s qs) (h0 : RefAt w r s O) :
    Calls Try.prog 9 #[.slice (some ⟨g, 0, none⟩) s.length s.length, .int .i64 (usedS s), .pointer (some ⟨r, 0, none⟩)] w fun e w' => e = .returned (.bool true) ∧ Below w.heap.size w w' := by
  obtain ⟨vl, vs, vc, h, _⟩ := h0
  obtain ⟨Al, cl, As, cs, Ac, cc, hvl, hvs, hvc, f0, f1, f2, f3, l1, l2, l3, l4, l5, l6, hle, hcl, hlt⟩ := h.facts
  have hcu := rcs_length 0 s
  have HB := Lib.hid hB
  have HR := Lib.hid h
  have HVL := Lib.hid hvl
  have HVS := Lib.hid hvs
  have HVC := Lib.hid hvc
  clear hB h hvl hvs hvc
  go_enter Try.func9, Try.ntmps9
  go_wp2
  go_loopw [7, 30] (fun x i wr => ∃ k : Nat, k ≤ s.length ∧ i = .int .i64 k ∧ x = .int .i64 (offS s k : Int) ∧ Below w.heap.size w wr) (fun _ i _ => s.length - (intOf i).toNat)
  case atStart => exact ⟨0, by omega, rfl, by rw [offS_zero]; rfl, Below.refl _ _⟩
  case round =>
    obtain ⟨k, hk, rfl, rfl, hb⟩ := hrel
    by_cases hks : k < s.length
    · obtain ⟨a, ha⟩ : ∃ a, s[k]? = some a := ⟨_, List.getElem?_eq_getElem hks⟩
      have hks2 : (k : Int) < (s.length : Int) := by omega
      obtain ⟨q, hq, t0, t1, t2, t3, tl⟩ := (HB.out.below hb).at ha
      have HR1 := Lib.hid (HR.out.below hb)
      obtain ⟨gl, cpl, e1, u0, u1, _⟩ := HR1.out.liveAt ha
      obtain ⟨gz, cps, e2, z0, z1⟩ := HR1.out.sizeAt ha
      have ev := HVL.out.symm.trans e1
      simp only [Value.slice.injEq, true_and] at ev
      obtain ⟨rfl, rfl⟩ := ev
      have ev := HVS.out.symm.trans e2
      simp only [Value.slice.injEq, true_and] at ev
      obtain ⟨rfl, rfl⟩ := ev
      clear e1 e2
      have HBE := Lib.hid hb
      have x0 : wr.cell? ⟨r, 0, none⟩ = _ := (hb.cell (p := ⟨r, 0, none⟩) hlt).trans f0
      have x1 : wr.cell? ⟨r, 1, none⟩ = _ := (hb.cell (p := ⟨r, 1, none⟩) hlt).trans f1
      have x2 : wr.cell? ⟨r, 2, none⟩ = _ := (hb.cell (p := ⟨r, 2, none⟩) hlt).trans f2
      have hrl : r < wr.heap.size := Nat.lt_of_lt_of_le hlt hb.size
      have hof := offS_succ s k a ha
      have HOF := Lib.hid hof
      have hne : (a.live != a.live) = false := bool_ne_self _
      have HA := Lib.hid ha
      have hal : offS s k + a.cells.length ≤ (rcs 0 s).length := by
        rcases Nat.eq_zero_or_pos a.cells.length with h0 | h0
        · have := rcs_off 0 s k
          omega
        · obtain ⟨c, hc⟩ : ∃ c, a.cells[a.cells.length - 1]? = some c := ⟨_, List.getElem?_eq_getElem (by omega)⟩
          have := (List.getElem?_eq_some_iff.1 (rcs_get 0 s k a _ c ha hc)).1
          omega
      clear hb ha hof
      generalize hoff : offS s k = off at *
      have HOFF := Lib.hid hoff
      clear hoff
      go_wp2_with fail
      go_quiet (fail)
      go_wp2_with fail
      have HB0 := Lib.hid (below_drewN (HBE.out.alloc (HBE.out.size) (.cells #[.bool a.live, .slice (some ⟨q.c, 0, none⟩) a.cells.length a.cells.length, .slice (some ⟨q.r, 0, none⟩) a.cells.length a.cells.length, .slice (some ⟨q.w, 0, none⟩) a.cells.length a.cells.length] 55)) nq)
      have HBX := Lib.hid (show Blk ((wr.alloc (.cells #[.bool a.live, .slice (some ⟨q.c, 0, none⟩) a.cells.length a.cells.length, .slice (some ⟨q.r, 0, none⟩) a.cells.length a.cells.length, .slice (some ⟨q.w, 0, none⟩) a.cells.length a.cells.length] 55)).drewN nq) wr.heap.size _ _ from Blk.new wr [.bool a.live, .slice (some ⟨q.c, 0, none⟩) a.cells.length a.cells.length, .slice (some ⟨q.r, 0, none⟩) a.cells.length a.cells.length, .slice (some ⟨q.w, 0, none⟩) a.cells.length a.cells.length] 55)
      have HT0 := Lib.hid (hq.out.below (below_drewN ((Below.refl wr.heap.size wr).alloc (Nat.le_refl _) (.cells #[.bool a.live, .slice (some ⟨q.c, 0, none⟩) a.cells.length a.cells.length, .slice (some ⟨q.r, 0, none⟩) a.cells.length a.cells.length, .slice (some ⟨q.w, 0, none⟩) a.cells.length a.cells.length] 55)) nq))
      have HR0 := Lib.hid (HR.out.below HB0.out)
      clear t0 t1 t2 t3 tl u0 u1 z0 z1 x0 x1 x2
      go_loopw [7, 79] (fun x i wq => ∃ j : Nat, j ≤ a.cells.length ∧ i = .int .i64 j ∧ x = .int .i64 ((off + j : Nat) : Int) ∧ Below (wr.heap.size + 1) ((wr.alloc (.cells #[.bool a.live, .slice (some ⟨q.c, 0, none⟩) a.cells.length a.cells.length, .slice (some ⟨q.r, 0, none⟩) a.cells.length a.cells.length, .slice (some ⟨q.w, 0, none⟩) a.cells.length a.cells.length] 55)).drewN nq) wq) (fun _ i _ => a.cells.length - (intOf i).toNat)
      case atStart => exact ⟨0, by omega, rfl, rfl, Below.refl _ _⟩
      case round =>
        rename World => wq
        obtain ⟨j, hj, rfl, rfl, hb⟩ := hrel
        have hb' : Below ((wr.alloc (.cells #[.bool a.live, .slice (some ⟨q.c, 0, none⟩) a.cells.length a.cells.length, .slice (some ⟨q.r, 0, none⟩) a.cells.length a.cells.length, .slice (some ⟨q.w, 0, none⟩) a.cells.length a.cells.length] 55)).drewN nq).heap.size ((wr.alloc (.cells #[.bool a.live, .slice (some ⟨q.c, 0, none⟩) a.cells.length a.cells.length, .slice (some ⟨q.r, 0, none⟩) a.cells.length a.cells.length, .slice (some ⟨q.w, 0, none⟩) a.cells.length a.cells.length] 55)).drewN nq) wq := by
          have e : ((wr.alloc (.cells #[.bool a.live, .slice (some ⟨q.c, 0, none⟩) a.cells.length a.cells.length, .slice (some ⟨q.r, 0, none⟩) a.cells.length a.cells.length, .slice (some ⟨q.w, 0, none⟩) a.cells.length a.cells.length] 55)).drewN nq).heap.size = wr.heap.size + 1 := by simp
          rw [e]
          exact hb
        by_cases hja : j < a.cells.length
        · obtain ⟨c, hc⟩ : ∃ c, a.cells[j]? = some c := ⟨_, List.getElem?_eq_getElem hja⟩
          have hja2 : (j : Int) < (a.cells.length : Int) := by omega
          obtain ⟨d1, d2, d3, d4, d5, m1, m2, m3⟩ := (HT0.out.below hb').at hc
          have hbx := HBX.out.below hb' HBX.out.lt
          have b1 := hbx.cell 1
          have b2 := hbx.cell 2
          have b3 := hbx.cell 3
          have hgb := hbx.lt
          simp only [List.getElem?_cons_zero, List.getElem?_cons_succ] at b1 b2 b3
          have hbw : Below w.heap.size w wq := HB0.out.trans (hb.mono (by have := HBE.out.size; omega))
          have x2 : wq.cell? ⟨r, 2, none⟩ = _ := (hbw.cell (p := ⟨r, 2, none⟩) hlt).trans f2
          have he := rcs_get 0 s k a j c HA.out hc
          rw [HOFF.out] at he
          obtain ⟨gc, cpc, ec, gcl, _, ecell⟩ := (HR0.out.below hb').cellAt he
          have ev := HVC.out.symm.trans ec
          simp only [Value.slice.injEq, true_and] at ev
          obtain ⟨rfl, rfl⟩ := ev
          clear ec
          have y0 := ecell 0 (by omega)
          have y1 := ecell 1 (by omega)
          have y2 := ecell 2 (by omega)
          have y3 := ecell 3 (by omega)
          have y4 := ecell 4 (by omega)
          have y5 := ecell 5 (by omega)
          have y6 := ecell 6 (by omega)
          simp only [rCells, List.getElem?_cons_zero, List.getElem?_cons_succ, Nat.add_zero, Nat.zero_add] at y0 y1 y2 y3 y4 y5 y6
          have hxl : off + j < (rcs 0 s).length := by omega
          have HBQ := Lib.hid hb
          have HBW := Lib.hid hbw
          have hxl2 : ((off + j : Nat) : Int) < ((rcs 0 s).length : Int) := by omega
          have hne2 : (c.w != c.w) = false := bool_ne_self _
          have hrl2 : r < wq.heap.size := by have := hb.size; omega
          clear hb hb' hbw hc he ecell hbx
          generalize hx : off + j = x at *
          have HX := Lib.hid hx
          clear hx
          have E0 := Lib.hid (show _ from held13_new (q := q) (c := c) (ge := wq.heap.size) (k := k) b1 b2 b3 d1 d2 d3 d4 d5 rfl)
          go_wp2_with fail
          go_region_held3 (fun w' => w'.cell? ⟨wr.heap.size, 1, none⟩ = some (.slice (some ⟨q.c, 0, none⟩) a.cells.length a.cells.length) ∧ w'.cell? ⟨wr.heap.size, 2, none⟩ = some (.slice (some ⟨q.r, 0, none⟩) a.cells.length a.cells.length) ∧ w'.cell? ⟨wr.heap.size, 3, none⟩ = some (.slice (some ⟨q.w, 0, none⟩) a.cells.length a.cells.length) ∧ w'.cell? ⟨q.c, j * 3, none⟩ = some (.int .i64 c.v.kind) ∧ w'.cell? ⟨q.c, j * 3 + 1, none⟩ = some (.int .i64 c.v.n) ∧ w'.cell? ⟨q.c, j * 3 + 2, none⟩ = some (.int .i64 c.v.block) ∧ w'.cell? ⟨q.r, j, none⟩ = some (.int .i64 c.r) ∧ w'.cell? ⟨q.w, j, none⟩ = some (.bool c.w) ∧ w'.cell? ⟨wq.heap.size, 2, none⟩ = some (.int .i64 c.v.kind) ∧ w'.cell? ⟨wq.heap.size, 3, none⟩ = some (.int .i64 c.v.n) ∧ w'.cell? ⟨wq.heap.size, 4, none⟩ = some (.int .i64 c.v.block) ∧ w'.cell? ⟨wq.heap.size, 5, none⟩ = some (.int .i64 c.r) ∧ w'.cell? ⟨wq.heap.size, 6, none⟩ = some (.bool c.w))
            (first | exact E0.out | exact KS.out | go_keep)
            (((with_reducible refine (val_any c.v _).mono ?_); rintro e w5 ⟨rfl, hb5⟩; have KS := Lib.hid (held13 hb5 E0.out)))
          have HB5 : Hid (Below wq.heap.size wq w5) := Lib.hid ((((Below.refl _ _).alloc (Nat.le_refl _) _).drew).trans (hb5.mono (by simp)))
          have hsq := HBQ.out.size
          clear hb5
          go_wp2
          go_roundw
          case rel => exact ⟨j + 1, by omega, by go_num, by rw [← HX.out]; go_num, HBQ.out.trans (HB5.out.mono (by simp at hsq; omega))⟩
          case measure => simp [intOf]; omega
        · obtain rfl : j = a.cells.length := by omega
          go_wp2
          go_roundw
          case rel => exact ⟨k + 1, by omega, by go_num, by rw [HOF.out], HB0.out.trans (hb.mono (by have := HBE.out.size; omega))⟩
          case measure => simp [intOf]; omega
    · obtain rfl : k = s.length := by omega
      have HBE := Lib.hid hb
      clear hb
      go_wp2
      go_ret
      exact ⟨rfl, HBE.out⟩

end Go.Proofs.Ytnjndggdnmboeaa
