/- The contract of heap.Over. -/
import Derived.Test.YtejnjaikalckiaaHLk
import Derived.Test.YtejnjaikalckiaaDRef0
import Derived.Test.YtejnjaikalckiaaHIn
namespace Go.Proofs.Ytejnjaikalckiaa
open Go.RowKit

/- What is made so far. -/
def overP (l : List Sy) (fs : List F) (k : Nat) : List F := (fs.take k).map (overF l) ++ List.replicate (fs.length - k) zeroF
theorem overP_len (l : List Sy) (fs : List F) (k : Nat) (hk : k ≤ fs.length) : (overP l fs k).length = fs.length := by simp [overP]; omega
theorem overP_all (l : List Sy) (fs : List F) : overP l fs fs.length = fs.map (overF l) := by simp [overP]
theorem overP_step (l : List Sy) (fs : List F) (k : Nat) {f : F} (hf : fs[k]? = some f) : (overP l fs k).set k (overF l f) = overP l fs (k + 1) := by
  have hk := (List.getElem?_eq_some_iff.1 hf).1
  unfold overP
  rw [List.set_append_right _ _ (by simp; omega), List.take_add_one, hf]
  have e : k - ((fs.take k).map (overF l)).length = 0 := by simp; omega
  rw [e, show fs.length - k = (fs.length - (k + 1)) + 1 by omega, List.replicate_succ, List.set_cons_zero]
  simp
theorem fact_set : ∀ (fs : List F) (k : Nat) (g : F), k < fs.length → (((factCells fs).set (k * 3) (.int .i64 g.x)).set (k * 3 + 1) (.int .i64 g.y)).set (k * 3 + 2) (.int .i64 g.c) = factCells (fs.set k g)
  | [], _, _, h => by simp at h
  | f :: fs, 0, g, _ => rfl
  | f :: fs, k + 1, g, h => by
    have ih := fact_set fs k g (by simpa using h)
    have e : factCells (f :: fs) = fCells f ++ factCells fs := rfl
    have l3 : (fCells f).length = 3 := rfl
    rw [e, show (k + 1) * 3 = 3 + k * 3 by omega, List.set_append_right _ _ (by omega), List.set_append_right _ _ (by omega), List.set_append_right _ _ (by omega), l3, show 3 + k * 3 - 3 = k * 3 by omega, show 3 + k * 3 + 1 - 3 = k * 3 + 1 by omega, show 3 + k * 3 + 2 - 3 = k * 3 + 2 by omega, ih]
    rfl
theorem run_make_leqs (n : Nat) (hn : n ≤ 65536) (w : World) :
    (Instr.makeSlice 23 (.int .i64 (n : Int)) (.int .i64 (n : Int))).run Try.prog w = .ok (.slice (some ⟨w.heap.size, 0, none⟩) n n) (w.alloc (.cells (factCells (List.replicate n zeroF)).toArray 45)) := by
  obtain ⟨i, h1, h2, h3, h4⟩ := info_parts Try.infoLeq
  have hr := run_make (P := Try.prog) w 23 45 i _ Try.underlying23 h1 h2 .i64 .i64 n n (by omega) (Int.le_refl _) (by rw [h4]; omega) (by omega)
  simp only [Int.toNat_natCast, h3] at hr
  rw [hr]
  have e2 : madeCells (Value.agg #[.int .i64 0, .int .i64 0, .int .i64 0]).cells (n * 3) = (factCells (List.replicate n zeroF)).toArray := by
    rw [← Array.toList_inj]
    show (madeCells #[.int .i64 0, .int .i64 0, .int .i64 0] (n * 3)).toList = _
    apply List.ext_getElem?
    intro j
    by_cases hj : j < n * 3
    · have hf := factCells_get (List.replicate n zeroF) (j / 3) zeroF (j % 3) (by rw [List.getElem?_replicate, if_pos (by omega)]) (Nat.mod_lt _ (by omega))
      rw [show j / 3 * 3 + j % 3 = j by omega] at hf
      rw [hf]
      have h3 : j % 3 = 0 ∨ j % 3 = 1 ∨ j % 3 = 2 := by omega
      rcases h3 with h | h | h <;> simp [madeCells, hj, h, fCells, zeroF]
    · have h1 : (factCells (List.replicate n zeroF))[j]? = none := List.getElem?_eq_none (by rw [factCells_len]; simpa using hj)
      rw [h1]
      simp [madeCells, hj]
  rw [e2]

def OvPost (l : List Sy) (fs : List F) (w : World) (e : Ending) (w' : World) : Prop :=
  ∃ g, e = .returned (.slice (some ⟨g, 0, none⟩) fs.length fs.length) ∧ w.heap.size ≤ g ∧ Blk w' g (factCells (fs.map (overF l))) 45 ∧ Below w.heap.size w w'

/- What is asked of a fact of cells. -/
structure FcOk (f : F) : Prop where
  x0 : -1000000 ≤ f.x
  x1 : f.x ≤ 1000000
  y0 : -1000000 ≤ f.y
  y1 : f.y ≤ 1000000
  c : Near f.c
theorem near_side {l : List Sy} (h : ∀ s ∈ l, Near s.k) (v : Int) : Near (sideY l v).k := by
  unfold sideY
  split
  · exact ⟨by decide, by decide⟩
  · split
    · exact ⟨by decide, by decide⟩
    · rename_i h1 _
      rw [List.getD_eq_getElem?_getD]
      cases hq : l[(v - 1).toNat]? with
      | none => exact ⟨by decide, by decide⟩
      | some s => exact h s (List.mem_of_getElem? hq)

set_option maxRecDepth 100000 in
set_option maxHeartbeats 32000000 in
theorem over_any {A B : Option Addr} {capA capB : Nat} {l : List Sy} {fs : List F} (w : World) (hA : SysAt w w.heap.size A l) (hB : FactsAt w w.heap.size B fs) (hl : l.length ≤ 1000000) (hf : fs.length ≤ 1000) (hk : ∀ s ∈ l, Near s.k) (hfs : ∀ f ∈ fs, FcOk f) :
    Calls Try.prog 18 #[.slice B fs.length capB, .slice A l.length capA] w (OvPost l fs w) := by
  have HA := Lib.hid hA
  have HB := Lib.hid hB
  have hm := run_make_leqs fs.length (by omega)
  clear hA hB
  go_enter Try.func18, Try.ntmps18
  go_wp2_with fail
  clear hm
  go_loopw [17] (fun i wr => ∃ k : Nat, k ≤ fs.length ∧ i = .int .i64 k ∧ Below w.heap.size w wr ∧ wr.cell? ⟨w.heap.size, 0, none⟩ = some (.slice A l.length capA) ∧ Blk wr (w.heap.size + 1) (factCells (overP l fs k)) 45) (fun i _ => fs.length - (intOf i).toNat)
  case atStart => exact ⟨0, by omega, rfl, ((Below.refl _ _).alloc (Nat.le_refl _) _).alloc (by simp) _, by simp, by have h := Blk.new (w.alloc (.cells #[.slice A l.length capA] 38)) (factCells (List.replicate fs.length zeroF)) 45; simpa [overP] using h⟩
  case round =>
    obtain ⟨k, hkl, rfl, hb, hh, hbk⟩ := hrel
    by_cases hlt : k < fs.length
    · obtain ⟨f, hfk⟩ : ∃ f, fs[k]? = some f := ⟨_, List.getElem?_eq_getElem hlt⟩
      obtain ⟨fb, fo, rfl, hfb, hfc⟩ := HB.out (by omega)
      obtain ⟨c0, c1, c2⟩ := hfc k f hfk
      have d0 := (hb.cell (p := ⟨fb, fo + k * 3, none⟩) hfb).trans c0
      have d1 := (hb.cell (p := ⟨fb, fo + k * 3 + 1, none⟩) hfb).trans c1
      have d2 := (hb.cell (p := ⟨fb, fo + k * 3 + 2, none⟩) hfb).trans c2
      have hok := hfs f (List.mem_of_getElem? hfk)
      have hfx : -1000000 ≤ f.x ∧ f.x ≤ 1000000 := ⟨hok.x0, hok.x1⟩
      have hfy : -1000000 ≤ f.y ∧ f.y ≤ 1000000 := ⟨hok.y0, hok.y1⟩
      obtain ⟨n0, n1⟩ := hok.c
      obtain ⟨nx0, nx1⟩ := near_side hk f.x
      obtain ⟨ny0, ny1⟩ := near_side hk f.y
      have HFK := Lib.hid hfk
      have HBW := Lib.hid hb
      have HBK := Lib.hid hbk
      have HHH := Lib.hid hh
      have hlt2 : (k : Int) < (fs.length : Int) := by omega
      have hbl := hbk.lt
      have HSD := Lib.hid fun (v : Int) (hv : -1000000 ≤ v ∧ v ≤ 1000000) (W : World) (hW : Below wr.heap.size wr W) => side_any (cap := capA) v hv hl w.heap.size W (keepC hh hW) ((HA.out.below (hb.trans (hW.mono hb.size)) (Nat.le_refl _)).more (Nat.le_trans hb.size hW.size))
      have HB1 := Lib.hid (show Below wr.heap.size wr (wr.alloc (.cells #[.int .i64 f.x, .int .i64 f.y, .int .i64 f.c] 45)) from (Below.refl _ _).alloc (Nat.le_refl _) _)
      have HF1 := Lib.hid (show Blk (wr.alloc (.cells #[.int .i64 f.x, .int .i64 f.y, .int .i64 f.c] 45)) wr.heap.size (fCells f) 45 from Blk.new wr (fCells f) _)
      clear hfc c0 c1 c2 hok hfk hb hbk hh
      go_upto_region 6 with fail
      have SM : ∀ {W W' : World}, (Below wr.heap.size wr W ∧ Blk W wr.heap.size (fCells f) 45) → Below W.heap.size W W' → (Below wr.heap.size wr W' ∧ Blk W' wr.heap.size (fCells f) 45) := fun h hb => ⟨h.1.trans (hb.mono h.1.size), h.2.stays hb⟩
      have SP : ∀ {W : World}, (Below wr.heap.size wr W ∧ Blk W wr.heap.size (fCells f) 45) → ∀ g, wr.heap.size < g → ∀ s : Sy, (Below wr.heap.size wr ((((W.setCell ⟨g, 0, none⟩ (.int .i64 s.kind)).setCell ⟨g, 1, none⟩ (.int .i64 s.v)).setCell ⟨g, 2, none⟩ (.int .i64 s.k)).setCell ⟨g, 3, none⟩ (.int .i64 s.b)) ∧ Blk ((((W.setCell ⟨g, 0, none⟩ (.int .i64 s.kind)).setCell ⟨g, 1, none⟩ (.int .i64 s.v)).setCell ⟨g, 2, none⟩ (.int .i64 s.k)).setCell ⟨g, 3, none⟩ (.int .i64 s.b)) wr.heap.size (fCells f) 45) := fun h g hg s => ⟨below4 h.1 (Nat.le_of_lt hg) s, h.2.far4 (by omega) s⟩
      try simp only [Act.put]
      go_cut [9, 10] (fun x y W => ∃ g8 g9, x = .pointer (some ⟨g8, 0, none⟩) ∧ y = .pointer (some ⟨g9, 0, none⟩) ∧ g8 ≠ g9 ∧ wr.heap.size < g8 ∧ wr.heap.size < g9 ∧ Below wr.heap.size wr W ∧ Blk W wr.heap.size (fCells f) 45 ∧ Blk W g8 (syCells (sideY l f.x)) 36 ∧ Blk W g9 (syCells (sideY l f.y)) 36)
      case first =>
        refine wp_region_held_drew (S := fun W => Below wr.heap.size wr W ∧ Blk W wr.heap.size (fCells f) 45) (by kernel_rfl) ⟨HB1.out.drew, HF1.out.drew⟩ (fun hS => ?_)
        generalize (wr.alloc (.cells #[.int .i64 f.x, .int .i64 f.y, .int .i64 f.c] 45)).drew = wd at hS ⊢
        refine wpAnyH_take (i := 0) (oi := ⟨some 22, _, _, _, _, _⟩) (v := .func (.func 49) #[] #[.pointer (some ⟨w.heap.size, 0, none⟩)]) rfl (by kernel_rfl) (by kernel_rfl) (by kernel_rfl) (fun _ _ _ h => h) (Or.inl ⟨by rfl, fun W _ => by go_simp⟩) hS ?_
        try simp only [Act.put, List.setIfInBounds_toArray, List.set_cons_zero, List.set_cons_succ]
        refine wpAnyH_take (i := 1) (oi := ⟨some 23, _, _, _, _, _⟩) (v := .pointer (some ⟨wr.heap.size, 0, none⟩)) rfl (by kernel_rfl) (by kernel_rfl) (by kernel_rfl) (fun _ _ _ h => h) (Or.inl ⟨by rfl, fun W _ => by go_simp⟩) hS ?_
        try simp only [Act.put, List.setIfInBounds_toArray, List.set_cons_zero, List.set_cons_succ]
        refine wpAnyH_take (i := 2) (oi := ⟨some 24, _, _, _, _, _⟩) (v := .int .i64 f.x) rfl (by kernel_rfl) (by kernel_rfl) (by kernel_rfl) (fun _ _ _ h => h) (Or.inl ⟨by rfl, fun W hW => by have h := hW.2.cell 0; simp only [fCells, List.getElem?_cons_zero, List.getElem?_cons_succ] at h; go_simp⟩) hS ?_
        try simp only [Act.put, List.setIfInBounds_toArray, List.set_cons_zero, List.set_cons_succ]
        refine wpAnyH_take (i := 4) (oi := ⟨some 26, _, _, _, _, _⟩) (v := .func (.func 49) #[] #[.pointer (some ⟨w.heap.size, 0, none⟩)]) rfl (by kernel_rfl) (by kernel_rfl) (by kernel_rfl) (fun _ _ _ h => h) (Or.inl ⟨by rfl, fun W _ => by go_simp⟩) hS ?_
        try simp only [Act.put, List.setIfInBounds_toArray, List.set_cons_zero, List.set_cons_succ]
        refine wpAnyH_take (i := 5) (oi := ⟨some 27, _, _, _, _, _⟩) (v := .pointer (some ⟨wr.heap.size, 1, none⟩)) rfl (by kernel_rfl) (by kernel_rfl) (by kernel_rfl) (fun _ _ _ h => h) (Or.inl ⟨by rfl, fun W _ => by go_simp⟩) hS ?_
        try simp only [Act.put, List.setIfInBounds_toArray, List.set_cons_zero, List.set_cons_succ]
        refine wpAnyH_take (i := 6) (oi := ⟨some 28, _, _, _, _, _⟩) (v := .int .i64 f.y) rfl (by kernel_rfl) (by kernel_rfl) (by kernel_rfl) (fun _ _ _ h => h) (Or.inl ⟨by rfl, fun W hW => by have h := hW.2.cell 1; simp only [fCells, List.getElem?_cons_zero, List.getElem?_cons_succ] at h; go_simp⟩) hS ?_
        try simp only [Act.put, List.setIfInBounds_toArray, List.set_cons_zero, List.set_cons_succ]
        refine AnyH.three (i := 3) (j := 8) (k := 9) (o := ⟨some 25, _, _, _, _, _⟩) (u := ⟨some 9, _, _, _, _, _⟩) (v := ⟨some 10, _, _, _, _, _⟩) (by kernel_rfl) rfl rfl rfl (by rfl) (by rfl) (by rfl) (fun K hK => ?_) (fun K hK => ?_) (fun K hK => ?_)
        · go_simp
          refine (HSD.out (f.x) hfx _ hS.1).mono ?_
          rintro e x1 ⟨rfl, hb⟩
          replace hS := SM hS hb
          clear hb
          unfold SyV
          refine hK.out _ _ hS ?_
          clear hK K
          try simp only [Act.put, List.setIfInBounds_toArray, List.set_cons_zero, List.set_cons_succ]
          refine AnyH.three (i := 7) (j := 8) (k := 9) (o := ⟨some 29, _, _, _, _, _⟩) (u := ⟨some 9, _, _, _, _, _⟩) (v := ⟨some 10, _, _, _, _, _⟩) (by kernel_rfl) rfl rfl rfl (by rfl) (by rfl) (by rfl) (fun K hK => ?_) (fun K hK => ?_) (fun K hK => ?_)
          · go_simp
            refine (HSD.out (f.y) hfy _ hS.1).mono ?_
            rintro e x2 ⟨rfl, hb⟩
            replace hS := SM hS hb
            clear hb
            unfold SyV
            refine hK.out _ _ hS ?_
            clear hK K
            try simp only [Act.put, List.setIfInBounds_toArray, List.set_cons_zero, List.set_cons_succ]
            refine AnyH.pair (i := 8) (k := 9) (o := ⟨some 9, _, _, _, _, _⟩) (u := ⟨some 10, _, _, _, _, _⟩) (by kernel_rfl) rfl rfl (by rfl) (by rfl) (fun K hK => ?_) (fun K hK => ?_)
            · go_simp
              have hl8 : wr.heap.size < (x2).heap.size := hS.2.lt
              have h8 := Blk.new (x2) [.int .i64 0, .int .i64 0, .int .i64 0, .int .i64 0] 36
              have hb : Below (x2).heap.size (x2) ((x2).alloc (.cells #[.int .i64 0, .int .i64 0, .int .i64 0, .int .i64 0] 36)) := (Below.refl _ _).alloc (Nat.le_refl _) _
              replace hS := SM hS hb
              clear hb
              generalize (x2).alloc (.cells #[.int .i64 0, .int .i64 0, .int .i64 0, .int .i64 0] 36) = x3 at *
              generalize (x2).heap.size = g8 at *
              refine hK.out _ _ hS ?_
              clear hK K
              try simp only [Act.put, List.setIfInBounds_toArray, List.set_cons_zero, List.set_cons_succ]
              refine AnyH.only (i := 9) (o := ⟨some 10, _, _, _, _, _⟩) (by kernel_rfl) rfl (by rfl) (fun K hK => ?_)
              go_simp
              have hl9 : wr.heap.size < (x3).heap.size := hS.2.lt
              have hne : g8 < (x3).heap.size := h8.lt
              have h9 := Blk.new (x3) [.int .i64 0, .int .i64 0, .int .i64 0, .int .i64 0] 36
              have hb : Below (x3).heap.size (x3) ((x3).alloc (.cells #[.int .i64 0, .int .i64 0, .int .i64 0, .int .i64 0] 36)) := (Below.refl _ _).alloc (Nat.le_refl _) _
              replace h8 := h8.stays hb
              replace hS := SM hS hb
              clear hb
              generalize (x3).alloc (.cells #[.int .i64 0, .int .i64 0, .int .i64 0, .int .i64 0] 36) = x4 at *
              generalize (x3).heap.size = g9 at *
              refine hK.out _ _ hS ?_
              clear hK K
              try simp only [Act.put, List.setIfInBounds_toArray, List.set_cons_zero, List.set_cons_succ]
              refine AnyH.only (i := 10) (o := ⟨none, _, _, _, _, _⟩) (by kernel_rfl) rfl (by rfl) (fun K hK => ?_)
              obtain ⟨z0, z1, z2, z3, zz, zl⟩ := h8.four
              go_simp
              replace h9 := h9.far4 (g := g8) (by omega) (sideY l f.x)
              replace h8 := h8.put4 (sideY l f.x)
              replace hS := SP hS g8 (by omega) (sideY l f.x)
              refine hK.out _ _ hS ?_
              clear hK K z0 z1 z2 z3 zz zl
              try simp only [Act.put]
              refine AnyH.only (i := 11) (o := ⟨none, _, _, _, _, _⟩) (by kernel_rfl) rfl (by rfl) (fun K hK => ?_)
              obtain ⟨z0, z1, z2, z3, zz, zl⟩ := h9.four
              go_simp
              replace h8 := h8.far4 (g := g9) (by omega) (sideY l f.y)
              replace h9 := h9.put4 (sideY l f.y)
              replace hS := SP hS g9 (by omega) (sideY l f.y)
              refine hK.out _ _ hS ?_
              clear hK K z0 z1 z2 z3 zz zl
              try simp only [Act.put]
              refine wpAnyH_done (by kernel_rfl) ?_ _
              go_wp2_with fail
              go_meet
              exact ⟨g8, g9, rfl, rfl, by omega, by omega, by omega, hS.1, hS.2, h8, h9⟩
            · go_simp
              have hl9 : wr.heap.size < (x2).heap.size := hS.2.lt
              have h9 := Blk.new (x2) [.int .i64 0, .int .i64 0, .int .i64 0, .int .i64 0] 36
              have hb : Below (x2).heap.size (x2) ((x2).alloc (.cells #[.int .i64 0, .int .i64 0, .int .i64 0, .int .i64 0] 36)) := (Below.refl _ _).alloc (Nat.le_refl _) _
              replace hS := SM hS hb
              clear hb
              generalize (x2).alloc (.cells #[.int .i64 0, .int .i64 0, .int .i64 0, .int .i64 0] 36) = x5 at *
              generalize (x2).heap.size = g9 at *
              refine hK.out _ _ hS ?_
              clear hK K
              try simp only [Act.put, List.setIfInBounds_toArray, List.set_cons_zero, List.set_cons_succ]
              refine AnyH.only (i := 8) (o := ⟨some 9, _, _, _, _, _⟩) (by kernel_rfl) rfl (by rfl) (fun K hK => ?_)
              go_simp
              have hl8 : wr.heap.size < (x5).heap.size := hS.2.lt
              have hne : g9 < (x5).heap.size := h9.lt
              have h8 := Blk.new (x5) [.int .i64 0, .int .i64 0, .int .i64 0, .int .i64 0] 36
              have hb : Below (x5).heap.size (x5) ((x5).alloc (.cells #[.int .i64 0, .int .i64 0, .int .i64 0, .int .i64 0] 36)) := (Below.refl _ _).alloc (Nat.le_refl _) _
              replace h9 := h9.stays hb
              replace hS := SM hS hb
              clear hb
              generalize (x5).alloc (.cells #[.int .i64 0, .int .i64 0, .int .i64 0, .int .i64 0] 36) = x6 at *
              generalize (x5).heap.size = g8 at *
              refine hK.out _ _ hS ?_
              clear hK K
              try simp only [Act.put, List.setIfInBounds_toArray, List.set_cons_zero, List.set_cons_succ]
              refine AnyH.only (i := 10) (o := ⟨none, _, _, _, _, _⟩) (by kernel_rfl) rfl (by rfl) (fun K hK => ?_)
              obtain ⟨z0, z1, z2, z3, zz, zl⟩ := h8.four
              go_simp
              replace h9 := h9.far4 (g := g8) (by omega) (sideY l f.x)
              replace h8 := h8.put4 (sideY l f.x)
              replace hS := SP hS g8 (by omega) (sideY l f.x)
              refine hK.out _ _ hS ?_
              clear hK K z0 z1 z2 z3 zz zl
              try simp only [Act.put]
              refine AnyH.only (i := 11) (o := ⟨none, _, _, _, _, _⟩) (by kernel_rfl) rfl (by rfl) (fun K hK => ?_)
              obtain ⟨z0, z1, z2, z3, zz, zl⟩ := h9.four
              go_simp
              replace h8 := h8.far4 (g := g9) (by omega) (sideY l f.y)
              replace h9 := h9.put4 (sideY l f.y)
              replace hS := SP hS g9 (by omega) (sideY l f.y)
              refine hK.out _ _ hS ?_
              clear hK K z0 z1 z2 z3 zz zl
              try simp only [Act.put]
              refine wpAnyH_done (by kernel_rfl) ?_ _
              go_wp2_with fail
              go_meet
              exact ⟨g8, g9, rfl, rfl, by omega, by omega, by omega, hS.1, hS.2, h8, h9⟩
          · go_simp
            have hl8 : wr.heap.size < (x1).heap.size := hS.2.lt
            have h8 := Blk.new (x1) [.int .i64 0, .int .i64 0, .int .i64 0, .int .i64 0] 36
            have hb : Below (x1).heap.size (x1) ((x1).alloc (.cells #[.int .i64 0, .int .i64 0, .int .i64 0, .int .i64 0] 36)) := (Below.refl _ _).alloc (Nat.le_refl _) _
            replace hS := SM hS hb
            clear hb
            generalize (x1).alloc (.cells #[.int .i64 0, .int .i64 0, .int .i64 0, .int .i64 0] 36) = x7 at *
            generalize (x1).heap.size = g8 at *
            refine hK.out _ _ hS ?_
            clear hK K
            try simp only [Act.put, List.setIfInBounds_toArray, List.set_cons_zero, List.set_cons_succ]
            refine AnyH.pair (i := 7) (k := 9) (o := ⟨some 29, _, _, _, _, _⟩) (u := ⟨some 10, _, _, _, _, _⟩) (by kernel_rfl) rfl rfl (by rfl) (by rfl) (fun K hK => ?_) (fun K hK => ?_)
            · go_simp
              refine (HSD.out (f.y) hfy _ hS.1).mono ?_
              rintro e x8 ⟨rfl, hb⟩
              replace hS := SM hS hb
              replace h8 := h8.stays hb
              clear hb
              unfold SyV
              refine hK.out _ _ hS ?_
              clear hK K
              try simp only [Act.put, List.setIfInBounds_toArray, List.set_cons_zero, List.set_cons_succ]
              refine AnyH.only (i := 9) (o := ⟨some 10, _, _, _, _, _⟩) (by kernel_rfl) rfl (by rfl) (fun K hK => ?_)
              go_simp
              have hl9 : wr.heap.size < (x8).heap.size := hS.2.lt
              have hne : g8 < (x8).heap.size := h8.lt
              have h9 := Blk.new (x8) [.int .i64 0, .int .i64 0, .int .i64 0, .int .i64 0] 36
              have hb : Below (x8).heap.size (x8) ((x8).alloc (.cells #[.int .i64 0, .int .i64 0, .int .i64 0, .int .i64 0] 36)) := (Below.refl _ _).alloc (Nat.le_refl _) _
              replace h8 := h8.stays hb
              replace hS := SM hS hb
              clear hb
              generalize (x8).alloc (.cells #[.int .i64 0, .int .i64 0, .int .i64 0, .int .i64 0] 36) = x9 at *
              generalize (x8).heap.size = g9 at *
              refine hK.out _ _ hS ?_
              clear hK K
              try simp only [Act.put, List.setIfInBounds_toArray, List.set_cons_zero, List.set_cons_succ]
              refine AnyH.only (i := 10) (o := ⟨none, _, _, _, _, _⟩) (by kernel_rfl) rfl (by rfl) (fun K hK => ?_)
              obtain ⟨z0, z1, z2, z3, zz, zl⟩ := h8.four
              go_simp
              replace h9 := h9.far4 (g := g8) (by omega) (sideY l f.x)
              replace h8 := h8.put4 (sideY l f.x)
              replace hS := SP hS g8 (by omega) (sideY l f.x)
              refine hK.out _ _ hS ?_
              clear hK K z0 z1 z2 z3 zz zl
              try simp only [Act.put]
              refine AnyH.only (i := 11) (o := ⟨none, _, _, _, _, _⟩) (by kernel_rfl) rfl (by rfl) (fun K hK => ?_)
              obtain ⟨z0, z1, z2, z3, zz, zl⟩ := h9.four
              go_simp
              replace h8 := h8.far4 (g := g9) (by omega) (sideY l f.y)
              replace h9 := h9.put4 (sideY l f.y)
              replace hS := SP hS g9 (by omega) (sideY l f.y)
              refine hK.out _ _ hS ?_
              clear hK K z0 z1 z2 z3 zz zl
              try simp only [Act.put]
              refine wpAnyH_done (by kernel_rfl) ?_ _
              go_wp2_with fail
              go_meet
              exact ⟨g8, g9, rfl, rfl, by omega, by omega, by omega, hS.1, hS.2, h8, h9⟩
            · go_simp
              have hl9 : wr.heap.size < (x7).heap.size := hS.2.lt
              have hne : g8 < (x7).heap.size := h8.lt
              have h9 := Blk.new (x7) [.int .i64 0, .int .i64 0, .int .i64 0, .int .i64 0] 36
              have hb : Below (x7).heap.size (x7) ((x7).alloc (.cells #[.int .i64 0, .int .i64 0, .int .i64 0, .int .i64 0] 36)) := (Below.refl _ _).alloc (Nat.le_refl _) _
              replace h8 := h8.stays hb
              replace hS := SM hS hb
              clear hb
              generalize (x7).alloc (.cells #[.int .i64 0, .int .i64 0, .int .i64 0, .int .i64 0] 36) = x10 at *
              generalize (x7).heap.size = g9 at *
              refine hK.out _ _ hS ?_
              clear hK K
              try simp only [Act.put, List.setIfInBounds_toArray, List.set_cons_zero, List.set_cons_succ]
              refine AnyH.only (i := 7) (o := ⟨some 29, _, _, _, _, _⟩) (by kernel_rfl) rfl (by rfl) (fun K hK => ?_)
              go_simp
              refine (HSD.out (f.y) hfy _ hS.1).mono ?_
              rintro e x11 ⟨rfl, hb⟩
              replace hS := SM hS hb
              replace h8 := h8.stays hb
              replace h9 := h9.stays hb
              clear hb
              unfold SyV
              refine hK.out _ _ hS ?_
              clear hK K
              try simp only [Act.put, List.setIfInBounds_toArray, List.set_cons_zero, List.set_cons_succ]
              refine AnyH.only (i := 10) (o := ⟨none, _, _, _, _, _⟩) (by kernel_rfl) rfl (by rfl) (fun K hK => ?_)
              obtain ⟨z0, z1, z2, z3, zz, zl⟩ := h8.four
              go_simp
              replace h9 := h9.far4 (g := g8) (by omega) (sideY l f.x)
              replace h8 := h8.put4 (sideY l f.x)
              replace hS := SP hS g8 (by omega) (sideY l f.x)
              refine hK.out _ _ hS ?_
              clear hK K z0 z1 z2 z3 zz zl
              try simp only [Act.put]
              refine AnyH.only (i := 11) (o := ⟨none, _, _, _, _, _⟩) (by kernel_rfl) rfl (by rfl) (fun K hK => ?_)
              obtain ⟨z0, z1, z2, z3, zz, zl⟩ := h9.four
              go_simp
              replace h8 := h8.far4 (g := g9) (by omega) (sideY l f.y)
              replace h9 := h9.put4 (sideY l f.y)
              replace hS := SP hS g9 (by omega) (sideY l f.y)
              refine hK.out _ _ hS ?_
              clear hK K z0 z1 z2 z3 zz zl
              try simp only [Act.put]
              refine wpAnyH_done (by kernel_rfl) ?_ _
              go_wp2_with fail
              go_meet
              exact ⟨g8, g9, rfl, rfl, by omega, by omega, by omega, hS.1, hS.2, h8, h9⟩
          · go_simp
            have hl9 : wr.heap.size < (x1).heap.size := hS.2.lt
            have h9 := Blk.new (x1) [.int .i64 0, .int .i64 0, .int .i64 0, .int .i64 0] 36
            have hb : Below (x1).heap.size (x1) ((x1).alloc (.cells #[.int .i64 0, .int .i64 0, .int .i64 0, .int .i64 0] 36)) := (Below.refl _ _).alloc (Nat.le_refl _) _
            replace hS := SM hS hb
            clear hb
            generalize (x1).alloc (.cells #[.int .i64 0, .int .i64 0, .int .i64 0, .int .i64 0] 36) = x12 at *
            generalize (x1).heap.size = g9 at *
            refine hK.out _ _ hS ?_
            clear hK K
            try simp only [Act.put, List.setIfInBounds_toArray, List.set_cons_zero, List.set_cons_succ]
            refine AnyH.pair (i := 7) (k := 8) (o := ⟨some 29, _, _, _, _, _⟩) (u := ⟨some 9, _, _, _, _, _⟩) (by kernel_rfl) rfl rfl (by rfl) (by rfl) (fun K hK => ?_) (fun K hK => ?_)
            · go_simp
              refine (HSD.out (f.y) hfy _ hS.1).mono ?_
              rintro e x13 ⟨rfl, hb⟩
              replace hS := SM hS hb
              replace h9 := h9.stays hb
              clear hb
              unfold SyV
              refine hK.out _ _ hS ?_
              clear hK K
              try simp only [Act.put, List.setIfInBounds_toArray, List.set_cons_zero, List.set_cons_succ]
              refine AnyH.only (i := 8) (o := ⟨some 9, _, _, _, _, _⟩) (by kernel_rfl) rfl (by rfl) (fun K hK => ?_)
              go_simp
              have hl8 : wr.heap.size < (x13).heap.size := hS.2.lt
              have hne : g9 < (x13).heap.size := h9.lt
              have h8 := Blk.new (x13) [.int .i64 0, .int .i64 0, .int .i64 0, .int .i64 0] 36
              have hb : Below (x13).heap.size (x13) ((x13).alloc (.cells #[.int .i64 0, .int .i64 0, .int .i64 0, .int .i64 0] 36)) := (Below.refl _ _).alloc (Nat.le_refl _) _
              replace h9 := h9.stays hb
              replace hS := SM hS hb
              clear hb
              generalize (x13).alloc (.cells #[.int .i64 0, .int .i64 0, .int .i64 0, .int .i64 0] 36) = x14 at *
              generalize (x13).heap.size = g8 at *
              refine hK.out _ _ hS ?_
              clear hK K
              try simp only [Act.put, List.setIfInBounds_toArray, List.set_cons_zero, List.set_cons_succ]
              refine AnyH.only (i := 10) (o := ⟨none, _, _, _, _, _⟩) (by kernel_rfl) rfl (by rfl) (fun K hK => ?_)
              obtain ⟨z0, z1, z2, z3, zz, zl⟩ := h8.four
              go_simp
              replace h9 := h9.far4 (g := g8) (by omega) (sideY l f.x)
              replace h8 := h8.put4 (sideY l f.x)
              replace hS := SP hS g8 (by omega) (sideY l f.x)
              refine hK.out _ _ hS ?_
              clear hK K z0 z1 z2 z3 zz zl
              try simp only [Act.put]
              refine AnyH.only (i := 11) (o := ⟨none, _, _, _, _, _⟩) (by kernel_rfl) rfl (by rfl) (fun K hK => ?_)
              obtain ⟨z0, z1, z2, z3, zz, zl⟩ := h9.four
              go_simp
              replace h8 := h8.far4 (g := g9) (by omega) (sideY l f.y)
              replace h9 := h9.put4 (sideY l f.y)
              replace hS := SP hS g9 (by omega) (sideY l f.y)
              refine hK.out _ _ hS ?_
              clear hK K z0 z1 z2 z3 zz zl
              try simp only [Act.put]
              refine wpAnyH_done (by kernel_rfl) ?_ _
              go_wp2_with fail
              go_meet
              exact ⟨g8, g9, rfl, rfl, by omega, by omega, by omega, hS.1, hS.2, h8, h9⟩
            · go_simp
              have hl8 : wr.heap.size < (x12).heap.size := hS.2.lt
              have hne : g9 < (x12).heap.size := h9.lt
              have h8 := Blk.new (x12) [.int .i64 0, .int .i64 0, .int .i64 0, .int .i64 0] 36
              have hb : Below (x12).heap.size (x12) ((x12).alloc (.cells #[.int .i64 0, .int .i64 0, .int .i64 0, .int .i64 0] 36)) := (Below.refl _ _).alloc (Nat.le_refl _) _
              replace h9 := h9.stays hb
              replace hS := SM hS hb
              clear hb
              generalize (x12).alloc (.cells #[.int .i64 0, .int .i64 0, .int .i64 0, .int .i64 0] 36) = x15 at *
              generalize (x12).heap.size = g8 at *
              refine hK.out _ _ hS ?_
              clear hK K
              try simp only [Act.put, List.setIfInBounds_toArray, List.set_cons_zero, List.set_cons_succ]
              refine AnyH.only (i := 7) (o := ⟨some 29, _, _, _, _, _⟩) (by kernel_rfl) rfl (by rfl) (fun K hK => ?_)
              go_simp
              refine (HSD.out (f.y) hfy _ hS.1).mono ?_
              rintro e x16 ⟨rfl, hb⟩
              replace hS := SM hS hb
              replace h8 := h8.stays hb
              replace h9 := h9.stays hb
              clear hb
              unfold SyV
              refine hK.out _ _ hS ?_
              clear hK K
              try simp only [Act.put, List.setIfInBounds_toArray, List.set_cons_zero, List.set_cons_succ]
              refine AnyH.only (i := 10) (o := ⟨none, _, _, _, _, _⟩) (by kernel_rfl) rfl (by rfl) (fun K hK => ?_)
              obtain ⟨z0, z1, z2, z3, zz, zl⟩ := h8.four
              go_simp
              replace h9 := h9.far4 (g := g8) (by omega) (sideY l f.x)
              replace h8 := h8.put4 (sideY l f.x)
              replace hS := SP hS g8 (by omega) (sideY l f.x)
              refine hK.out _ _ hS ?_
              clear hK K z0 z1 z2 z3 zz zl
              try simp only [Act.put]
              refine AnyH.only (i := 11) (o := ⟨none, _, _, _, _, _⟩) (by kernel_rfl) rfl (by rfl) (fun K hK => ?_)
              obtain ⟨z0, z1, z2, z3, zz, zl⟩ := h9.four
              go_simp
              replace h8 := h8.far4 (g := g9) (by omega) (sideY l f.y)
              replace h9 := h9.put4 (sideY l f.y)
              replace hS := SP hS g9 (by omega) (sideY l f.y)
              refine hK.out _ _ hS ?_
              clear hK K z0 z1 z2 z3 zz zl
              try simp only [Act.put]
              refine wpAnyH_done (by kernel_rfl) ?_ _
              go_wp2_with fail
              go_meet
              exact ⟨g8, g9, rfl, rfl, by omega, by omega, by omega, hS.1, hS.2, h8, h9⟩
        · go_simp
          have hl8 : wr.heap.size < (wd).heap.size := hS.2.lt
          have h8 := Blk.new (wd) [.int .i64 0, .int .i64 0, .int .i64 0, .int .i64 0] 36
          have hb : Below (wd).heap.size (wd) ((wd).alloc (.cells #[.int .i64 0, .int .i64 0, .int .i64 0, .int .i64 0] 36)) := (Below.refl _ _).alloc (Nat.le_refl _) _
          replace hS := SM hS hb
          clear hb
          generalize (wd).alloc (.cells #[.int .i64 0, .int .i64 0, .int .i64 0, .int .i64 0] 36) = x17 at *
          generalize (wd).heap.size = g8 at *
          refine hK.out _ _ hS ?_
          clear hK K
          try simp only [Act.put, List.setIfInBounds_toArray, List.set_cons_zero, List.set_cons_succ]
          refine AnyH.pair (i := 3) (k := 9) (o := ⟨some 25, _, _, _, _, _⟩) (u := ⟨some 10, _, _, _, _, _⟩) (by kernel_rfl) rfl rfl (by rfl) (by rfl) (fun K hK => ?_) (fun K hK => ?_)
          · go_simp
            refine (HSD.out (f.x) hfx _ hS.1).mono ?_
            rintro e x18 ⟨rfl, hb⟩
            replace hS := SM hS hb
            replace h8 := h8.stays hb
            clear hb
            unfold SyV
            refine hK.out _ _ hS ?_
            clear hK K
            try simp only [Act.put, List.setIfInBounds_toArray, List.set_cons_zero, List.set_cons_succ]
            refine AnyH.pair (i := 7) (k := 9) (o := ⟨some 29, _, _, _, _, _⟩) (u := ⟨some 10, _, _, _, _, _⟩) (by kernel_rfl) rfl rfl (by rfl) (by rfl) (fun K hK => ?_) (fun K hK => ?_)
            · go_simp
              refine (HSD.out (f.y) hfy _ hS.1).mono ?_
              rintro e x19 ⟨rfl, hb⟩
              replace hS := SM hS hb
              replace h8 := h8.stays hb
              clear hb
              unfold SyV
              refine hK.out _ _ hS ?_
              clear hK K
              try simp only [Act.put, List.setIfInBounds_toArray, List.set_cons_zero, List.set_cons_succ]
              refine AnyH.only (i := 9) (o := ⟨some 10, _, _, _, _, _⟩) (by kernel_rfl) rfl (by rfl) (fun K hK => ?_)
              go_simp
              have hl9 : wr.heap.size < (x19).heap.size := hS.2.lt
              have hne : g8 < (x19).heap.size := h8.lt
              have h9 := Blk.new (x19) [.int .i64 0, .int .i64 0, .int .i64 0, .int .i64 0] 36
              have hb : Below (x19).heap.size (x19) ((x19).alloc (.cells #[.int .i64 0, .int .i64 0, .int .i64 0, .int .i64 0] 36)) := (Below.refl _ _).alloc (Nat.le_refl _) _
              replace h8 := h8.stays hb
              replace hS := SM hS hb
              clear hb
              generalize (x19).alloc (.cells #[.int .i64 0, .int .i64 0, .int .i64 0, .int .i64 0] 36) = x20 at *
              generalize (x19).heap.size = g9 at *
              refine hK.out _ _ hS ?_
              clear hK K
              try simp only [Act.put, List.setIfInBounds_toArray, List.set_cons_zero, List.set_cons_succ]
              refine AnyH.only (i := 10) (o := ⟨none, _, _, _, _, _⟩) (by kernel_rfl) rfl (by rfl) (fun K hK => ?_)
              obtain ⟨z0, z1, z2, z3, zz, zl⟩ := h8.four
              go_simp
              replace h9 := h9.far4 (g := g8) (by omega) (sideY l f.x)
              replace h8 := h8.put4 (sideY l f.x)
              replace hS := SP hS g8 (by omega) (sideY l f.x)
              refine hK.out _ _ hS ?_
              clear hK K z0 z1 z2 z3 zz zl
              try simp only [Act.put]
              refine AnyH.only (i := 11) (o := ⟨none, _, _, _, _, _⟩) (by kernel_rfl) rfl (by rfl) (fun K hK => ?_)
              obtain ⟨z0, z1, z2, z3, zz, zl⟩ := h9.four
              go_simp
              replace h8 := h8.far4 (g := g9) (by omega) (sideY l f.y)
              replace h9 := h9.put4 (sideY l f.y)
              replace hS := SP hS g9 (by omega) (sideY l f.y)
              refine hK.out _ _ hS ?_
              clear hK K z0 z1 z2 z3 zz zl
              try simp only [Act.put]
              refine wpAnyH_done (by kernel_rfl) ?_ _
              go_wp2_with fail
              go_meet
              exact ⟨g8, g9, rfl, rfl, by omega, by omega, by omega, hS.1, hS.2, h8, h9⟩
            · go_simp
              have hl9 : wr.heap.size < (x18).heap.size := hS.2.lt
              have hne : g8 < (x18).heap.size := h8.lt
              have h9 := Blk.new (x18) [.int .i64 0, .int .i64 0, .int .i64 0, .int .i64 0] 36
              have hb : Below (x18).heap.size (x18) ((x18).alloc (.cells #[.int .i64 0, .int .i64 0, .int .i64 0, .int .i64 0] 36)) := (Below.refl _ _).alloc (Nat.le_refl _) _
              replace h8 := h8.stays hb
              replace hS := SM hS hb
              clear hb
              generalize (x18).alloc (.cells #[.int .i64 0, .int .i64 0, .int .i64 0, .int .i64 0] 36) = x21 at *
              generalize (x18).heap.size = g9 at *
              refine hK.out _ _ hS ?_
              clear hK K
              try simp only [Act.put, List.setIfInBounds_toArray, List.set_cons_zero, List.set_cons_succ]
              refine AnyH.only (i := 7) (o := ⟨some 29, _, _, _, _, _⟩) (by kernel_rfl) rfl (by rfl) (fun K hK => ?_)
              go_simp
              refine (HSD.out (f.y) hfy _ hS.1).mono ?_
              rintro e x22 ⟨rfl, hb⟩
              replace hS := SM hS hb
              replace h8 := h8.stays hb
              replace h9 := h9.stays hb
              clear hb
              unfold SyV
              refine hK.out _ _ hS ?_
              clear hK K
              try simp only [Act.put, List.setIfInBounds_toArray, List.set_cons_zero, List.set_cons_succ]
              refine AnyH.only (i := 10) (o := ⟨none, _, _, _, _, _⟩) (by kernel_rfl) rfl (by rfl) (fun K hK => ?_)
              obtain ⟨z0, z1, z2, z3, zz, zl⟩ := h8.four
              go_simp
              replace h9 := h9.far4 (g := g8) (by omega) (sideY l f.x)
              replace h8 := h8.put4 (sideY l f.x)
              replace hS := SP hS g8 (by omega) (sideY l f.x)
              refine hK.out _ _ hS ?_
              clear hK K z0 z1 z2 z3 zz zl
              try simp only [Act.put]
              refine AnyH.only (i := 11) (o := ⟨none, _, _, _, _, _⟩) (by kernel_rfl) rfl (by rfl) (fun K hK => ?_)
              obtain ⟨z0, z1, z2, z3, zz, zl⟩ := h9.four
              go_simp
              replace h8 := h8.far4 (g := g9) (by omega) (sideY l f.y)
              replace h9 := h9.put4 (sideY l f.y)
              replace hS := SP hS g9 (by omega) (sideY l f.y)
              refine hK.out _ _ hS ?_
              clear hK K z0 z1 z2 z3 zz zl
              try simp only [Act.put]
              refine wpAnyH_done (by kernel_rfl) ?_ _
              go_wp2_with fail
              go_meet
              exact ⟨g8, g9, rfl, rfl, by omega, by omega, by omega, hS.1, hS.2, h8, h9⟩
          · go_simp
            have hl9 : wr.heap.size < (x17).heap.size := hS.2.lt
            have hne : g8 < (x17).heap.size := h8.lt
            have h9 := Blk.new (x17) [.int .i64 0, .int .i64 0, .int .i64 0, .int .i64 0] 36
            have hb : Below (x17).heap.size (x17) ((x17).alloc (.cells #[.int .i64 0, .int .i64 0, .int .i64 0, .int .i64 0] 36)) := (Below.refl _ _).alloc (Nat.le_refl _) _
            replace h8 := h8.stays hb
            replace hS := SM hS hb
            clear hb
            generalize (x17).alloc (.cells #[.int .i64 0, .int .i64 0, .int .i64 0, .int .i64 0] 36) = x23 at *
            generalize (x17).heap.size = g9 at *
            refine hK.out _ _ hS ?_
            clear hK K
            try simp only [Act.put, List.setIfInBounds_toArray, List.set_cons_zero, List.set_cons_succ]
            refine AnyH.only (i := 3) (o := ⟨some 25, _, _, _, _, _⟩) (by kernel_rfl) rfl (by rfl) (fun K hK => ?_)
            go_simp
            refine (HSD.out (f.x) hfx _ hS.1).mono ?_
            rintro e x24 ⟨rfl, hb⟩
            replace hS := SM hS hb
            replace h8 := h8.stays hb
            replace h9 := h9.stays hb
            clear hb
            unfold SyV
            refine hK.out _ _ hS ?_
            clear hK K
            try simp only [Act.put, List.setIfInBounds_toArray, List.set_cons_zero, List.set_cons_succ]
            refine AnyH.only (i := 7) (o := ⟨some 29, _, _, _, _, _⟩) (by kernel_rfl) rfl (by rfl) (fun K hK => ?_)
            go_simp
            refine (HSD.out (f.y) hfy _ hS.1).mono ?_
            rintro e x25 ⟨rfl, hb⟩
            replace hS := SM hS hb
            replace h8 := h8.stays hb
            replace h9 := h9.stays hb
            clear hb
            unfold SyV
            refine hK.out _ _ hS ?_
            clear hK K
            try simp only [Act.put, List.setIfInBounds_toArray, List.set_cons_zero, List.set_cons_succ]
            refine AnyH.only (i := 10) (o := ⟨none, _, _, _, _, _⟩) (by kernel_rfl) rfl (by rfl) (fun K hK => ?_)
            obtain ⟨z0, z1, z2, z3, zz, zl⟩ := h8.four
            go_simp
            replace h9 := h9.far4 (g := g8) (by omega) (sideY l f.x)
            replace h8 := h8.put4 (sideY l f.x)
            replace hS := SP hS g8 (by omega) (sideY l f.x)
            refine hK.out _ _ hS ?_
            clear hK K z0 z1 z2 z3 zz zl
            try simp only [Act.put]
            refine AnyH.only (i := 11) (o := ⟨none, _, _, _, _, _⟩) (by kernel_rfl) rfl (by rfl) (fun K hK => ?_)
            obtain ⟨z0, z1, z2, z3, zz, zl⟩ := h9.four
            go_simp
            replace h8 := h8.far4 (g := g9) (by omega) (sideY l f.y)
            replace h9 := h9.put4 (sideY l f.y)
            replace hS := SP hS g9 (by omega) (sideY l f.y)
            refine hK.out _ _ hS ?_
            clear hK K z0 z1 z2 z3 zz zl
            try simp only [Act.put]
            refine wpAnyH_done (by kernel_rfl) ?_ _
            go_wp2_with fail
            go_meet
            exact ⟨g8, g9, rfl, rfl, by omega, by omega, by omega, hS.1, hS.2, h8, h9⟩
        · go_simp
          have hl9 : wr.heap.size < (wd).heap.size := hS.2.lt
          have h9 := Blk.new (wd) [.int .i64 0, .int .i64 0, .int .i64 0, .int .i64 0] 36
          have hb : Below (wd).heap.size (wd) ((wd).alloc (.cells #[.int .i64 0, .int .i64 0, .int .i64 0, .int .i64 0] 36)) := (Below.refl _ _).alloc (Nat.le_refl _) _
          replace hS := SM hS hb
          clear hb
          generalize (wd).alloc (.cells #[.int .i64 0, .int .i64 0, .int .i64 0, .int .i64 0] 36) = x26 at *
          generalize (wd).heap.size = g9 at *
          refine hK.out _ _ hS ?_
          clear hK K
          try simp only [Act.put, List.setIfInBounds_toArray, List.set_cons_zero, List.set_cons_succ]
          refine AnyH.pair (i := 3) (k := 8) (o := ⟨some 25, _, _, _, _, _⟩) (u := ⟨some 9, _, _, _, _, _⟩) (by kernel_rfl) rfl rfl (by rfl) (by rfl) (fun K hK => ?_) (fun K hK => ?_)
          · go_simp
            refine (HSD.out (f.x) hfx _ hS.1).mono ?_
            rintro e x27 ⟨rfl, hb⟩
            replace hS := SM hS hb
            replace h9 := h9.stays hb
            clear hb
            unfold SyV
            refine hK.out _ _ hS ?_
            clear hK K
            try simp only [Act.put, List.setIfInBounds_toArray, List.set_cons_zero, List.set_cons_succ]
            refine AnyH.pair (i := 7) (k := 8) (o := ⟨some 29, _, _, _, _, _⟩) (u := ⟨some 9, _, _, _, _, _⟩) (by kernel_rfl) rfl rfl (by rfl) (by rfl) (fun K hK => ?_) (fun K hK => ?_)
            · go_simp
              refine (HSD.out (f.y) hfy _ hS.1).mono ?_
              rintro e x28 ⟨rfl, hb⟩
              replace hS := SM hS hb
              replace h9 := h9.stays hb
              clear hb
              unfold SyV
              refine hK.out _ _ hS ?_
              clear hK K
              try simp only [Act.put, List.setIfInBounds_toArray, List.set_cons_zero, List.set_cons_succ]
              refine AnyH.only (i := 8) (o := ⟨some 9, _, _, _, _, _⟩) (by kernel_rfl) rfl (by rfl) (fun K hK => ?_)
              go_simp
              have hl8 : wr.heap.size < (x28).heap.size := hS.2.lt
              have hne : g9 < (x28).heap.size := h9.lt
              have h8 := Blk.new (x28) [.int .i64 0, .int .i64 0, .int .i64 0, .int .i64 0] 36
              have hb : Below (x28).heap.size (x28) ((x28).alloc (.cells #[.int .i64 0, .int .i64 0, .int .i64 0, .int .i64 0] 36)) := (Below.refl _ _).alloc (Nat.le_refl _) _
              replace h9 := h9.stays hb
              replace hS := SM hS hb
              clear hb
              generalize (x28).alloc (.cells #[.int .i64 0, .int .i64 0, .int .i64 0, .int .i64 0] 36) = x29 at *
              generalize (x28).heap.size = g8 at *
              refine hK.out _ _ hS ?_
              clear hK K
              try simp only [Act.put, List.setIfInBounds_toArray, List.set_cons_zero, List.set_cons_succ]
              refine AnyH.only (i := 10) (o := ⟨none, _, _, _, _, _⟩) (by kernel_rfl) rfl (by rfl) (fun K hK => ?_)
              obtain ⟨z0, z1, z2, z3, zz, zl⟩ := h8.four
              go_simp
              replace h9 := h9.far4 (g := g8) (by omega) (sideY l f.x)
              replace h8 := h8.put4 (sideY l f.x)
              replace hS := SP hS g8 (by omega) (sideY l f.x)
              refine hK.out _ _ hS ?_
              clear hK K z0 z1 z2 z3 zz zl
              try simp only [Act.put]
              refine AnyH.only (i := 11) (o := ⟨none, _, _, _, _, _⟩) (by kernel_rfl) rfl (by rfl) (fun K hK => ?_)
              obtain ⟨z0, z1, z2, z3, zz, zl⟩ := h9.four
              go_simp
              replace h8 := h8.far4 (g := g9) (by omega) (sideY l f.y)
              replace h9 := h9.put4 (sideY l f.y)
              replace hS := SP hS g9 (by omega) (sideY l f.y)
              refine hK.out _ _ hS ?_
              clear hK K z0 z1 z2 z3 zz zl
              try simp only [Act.put]
              refine wpAnyH_done (by kernel_rfl) ?_ _
              go_wp2_with fail
              go_meet
              exact ⟨g8, g9, rfl, rfl, by omega, by omega, by omega, hS.1, hS.2, h8, h9⟩
            · go_simp
              have hl8 : wr.heap.size < (x27).heap.size := hS.2.lt
              have hne : g9 < (x27).heap.size := h9.lt
              have h8 := Blk.new (x27) [.int .i64 0, .int .i64 0, .int .i64 0, .int .i64 0] 36
              have hb : Below (x27).heap.size (x27) ((x27).alloc (.cells #[.int .i64 0, .int .i64 0, .int .i64 0, .int .i64 0] 36)) := (Below.refl _ _).alloc (Nat.le_refl _) _
              replace h9 := h9.stays hb
              replace hS := SM hS hb
              clear hb
              generalize (x27).alloc (.cells #[.int .i64 0, .int .i64 0, .int .i64 0, .int .i64 0] 36) = x30 at *
              generalize (x27).heap.size = g8 at *
              refine hK.out _ _ hS ?_
              clear hK K
              try simp only [Act.put, List.setIfInBounds_toArray, List.set_cons_zero, List.set_cons_succ]
              refine AnyH.only (i := 7) (o := ⟨some 29, _, _, _, _, _⟩) (by kernel_rfl) rfl (by rfl) (fun K hK => ?_)
              go_simp
              refine (HSD.out (f.y) hfy _ hS.1).mono ?_
              rintro e x31 ⟨rfl, hb⟩
              replace hS := SM hS hb
              replace h8 := h8.stays hb
              replace h9 := h9.stays hb
              clear hb
              unfold SyV
              refine hK.out _ _ hS ?_
              clear hK K
              try simp only [Act.put, List.setIfInBounds_toArray, List.set_cons_zero, List.set_cons_succ]
              refine AnyH.only (i := 10) (o := ⟨none, _, _, _, _, _⟩) (by kernel_rfl) rfl (by rfl) (fun K hK => ?_)
              obtain ⟨z0, z1, z2, z3, zz, zl⟩ := h8.four
              go_simp
              replace h9 := h9.far4 (g := g8) (by omega) (sideY l f.x)
              replace h8 := h8.put4 (sideY l f.x)
              replace hS := SP hS g8 (by omega) (sideY l f.x)
              refine hK.out _ _ hS ?_
              clear hK K z0 z1 z2 z3 zz zl
              try simp only [Act.put]
              refine AnyH.only (i := 11) (o := ⟨none, _, _, _, _, _⟩) (by kernel_rfl) rfl (by rfl) (fun K hK => ?_)
              obtain ⟨z0, z1, z2, z3, zz, zl⟩ := h9.four
              go_simp
              replace h8 := h8.far4 (g := g9) (by omega) (sideY l f.y)
              replace h9 := h9.put4 (sideY l f.y)
              replace hS := SP hS g9 (by omega) (sideY l f.y)
              refine hK.out _ _ hS ?_
              clear hK K z0 z1 z2 z3 zz zl
              try simp only [Act.put]
              refine wpAnyH_done (by kernel_rfl) ?_ _
              go_wp2_with fail
              go_meet
              exact ⟨g8, g9, rfl, rfl, by omega, by omega, by omega, hS.1, hS.2, h8, h9⟩
          · go_simp
            have hl8 : wr.heap.size < (x26).heap.size := hS.2.lt
            have hne : g9 < (x26).heap.size := h9.lt
            have h8 := Blk.new (x26) [.int .i64 0, .int .i64 0, .int .i64 0, .int .i64 0] 36
            have hb : Below (x26).heap.size (x26) ((x26).alloc (.cells #[.int .i64 0, .int .i64 0, .int .i64 0, .int .i64 0] 36)) := (Below.refl _ _).alloc (Nat.le_refl _) _
            replace h9 := h9.stays hb
            replace hS := SM hS hb
            clear hb
            generalize (x26).alloc (.cells #[.int .i64 0, .int .i64 0, .int .i64 0, .int .i64 0] 36) = x32 at *
            generalize (x26).heap.size = g8 at *
            refine hK.out _ _ hS ?_
            clear hK K
            try simp only [Act.put, List.setIfInBounds_toArray, List.set_cons_zero, List.set_cons_succ]
            refine AnyH.only (i := 3) (o := ⟨some 25, _, _, _, _, _⟩) (by kernel_rfl) rfl (by rfl) (fun K hK => ?_)
            go_simp
            refine (HSD.out (f.x) hfx _ hS.1).mono ?_
            rintro e x33 ⟨rfl, hb⟩
            replace hS := SM hS hb
            replace h8 := h8.stays hb
            replace h9 := h9.stays hb
            clear hb
            unfold SyV
            refine hK.out _ _ hS ?_
            clear hK K
            try simp only [Act.put, List.setIfInBounds_toArray, List.set_cons_zero, List.set_cons_succ]
            refine AnyH.only (i := 7) (o := ⟨some 29, _, _, _, _, _⟩) (by kernel_rfl) rfl (by rfl) (fun K hK => ?_)
            go_simp
            refine (HSD.out (f.y) hfy _ hS.1).mono ?_
            rintro e x34 ⟨rfl, hb⟩
            replace hS := SM hS hb
            replace h8 := h8.stays hb
            replace h9 := h9.stays hb
            clear hb
            unfold SyV
            refine hK.out _ _ hS ?_
            clear hK K
            try simp only [Act.put, List.setIfInBounds_toArray, List.set_cons_zero, List.set_cons_succ]
            refine AnyH.only (i := 10) (o := ⟨none, _, _, _, _, _⟩) (by kernel_rfl) rfl (by rfl) (fun K hK => ?_)
            obtain ⟨z0, z1, z2, z3, zz, zl⟩ := h8.four
            go_simp
            replace h9 := h9.far4 (g := g8) (by omega) (sideY l f.x)
            replace h8 := h8.put4 (sideY l f.x)
            replace hS := SP hS g8 (by omega) (sideY l f.x)
            refine hK.out _ _ hS ?_
            clear hK K z0 z1 z2 z3 zz zl
            try simp only [Act.put]
            refine AnyH.only (i := 11) (o := ⟨none, _, _, _, _, _⟩) (by kernel_rfl) rfl (by rfl) (fun K hK => ?_)
            obtain ⟨z0, z1, z2, z3, zz, zl⟩ := h9.four
            go_simp
            replace h8 := h8.far4 (g := g9) (by omega) (sideY l f.y)
            replace h9 := h9.put4 (sideY l f.y)
            replace hS := SP hS g9 (by omega) (sideY l f.y)
            refine hK.out _ _ hS ?_
            clear hK K z0 z1 z2 z3 zz zl
            try simp only [Act.put]
            refine wpAnyH_done (by kernel_rfl) ?_ _
            go_wp2_with fail
            go_meet
            exact ⟨g8, g9, rfl, rfl, by omega, by omega, by omega, hS.1, hS.2, h8, h9⟩
      case rest =>
        obtain ⟨g8, g9, rfl, rfl, hne, h8l, h9l, hb2, hf2, h8, h9⟩ := hcut
        rename World => W2
        have hbo := HBK.out.stays hb2
        have o0 : W2.cell? ⟨w.heap.size + 1, k * 3, none⟩ = (factCells (overP l fs k))[k * 3]? := hbo.cell (k * 3)
        have ol : (factCells (overP l fs k)).length = fs.length * 3 := by rw [factCells_len, overP_len l fs k hkl]
        obtain ⟨y0, hy0⟩ : ∃ y, W2.cell? ⟨w.heap.size + 1, k * 3, none⟩ = some y := ⟨_, (hbo.cell _).trans (List.getElem?_eq_getElem (by omega))⟩
        obtain ⟨y1, hy1⟩ : ∃ y, W2.cell? ⟨w.heap.size + 1, k * 3 + 1, none⟩ = some y := ⟨_, (hbo.cell _).trans (List.getElem?_eq_getElem (by omega))⟩
        obtain ⟨y2, hy2⟩ : ∃ y, W2.cell? ⟨w.heap.size + 1, k * 3 + 2, none⟩ = some y := ⟨_, (hbo.cell _).trans (List.getElem?_eq_getElem (by omega))⟩
        have yz := hbo.frozen
        have hh2 := keepC HHH.out hb2
        have hw1 : IntKind.i64.wrap (f.c - (sideY l f.x).k) = f.c - (sideY l f.x).k := IntWalk.i64_in _ (by omega)
        have hw2 : IntKind.i64.wrap (f.c - (sideY l f.x).k + (sideY l f.y).k) = f.c - (sideY l f.x).k + (sideY l f.y).k := IntWalk.i64_in _ (by omega)
        have e81 : W2.cell? ⟨g8, 1, none⟩ = some (.int .i64 (sideY l f.x).v) := h8.cell 1
        have e82 : W2.cell? ⟨g8, 2, none⟩ = some (.int .i64 (sideY l f.x).k) := h8.cell 2
        have e91 : W2.cell? ⟨g9, 1, none⟩ = some (.int .i64 (sideY l f.y).v) := h9.cell 1
        have e92 : W2.cell? ⟨g9, 2, none⟩ = some (.int .i64 (sideY l f.y).k) := h9.cell 2
        have ef2 : W2.cell? ⟨wr.heap.size, 2, none⟩ = some (.int .i64 f.c) := hf2.cell 2
        have HB2 := Lib.hid (HBW.out.trans (hb2.mono HBW.out.size))
        have HBO := Lib.hid hbo
        clear h8 h9 hf2 o0 ol hbo SM SP hb2
        go_wp2_with fail
        go_roundw
        case rel =>
          refine ⟨k + 1, by omega, by go_num, ?_, ?_, ?_⟩
          · exact (((HB2.out).setCell (p := ⟨w.heap.size + 1, k * 3, none⟩) (by show w.heap.size ≤ w.heap.size + 1; omega) _).setCell (p := ⟨w.heap.size + 1, k * 3 + 1, none⟩) (by show w.heap.size ≤ w.heap.size + 1; omega) _).setCell (p := ⟨w.heap.size + 1, k * 3 + 2, none⟩) (by show w.heap.size ≤ w.heap.size + 1; omega) _
          · exact keepS (keepS (keepS hh2 (by omega)) (by omega)) (by omega)
          · have h3 := ((HBO.out.put (k * 3) (.int .i64 (overF l f).x)).put (k * 3 + 1) (.int .i64 (overF l f).y)).put (k * 3 + 2) (.int .i64 (overF l f).c)
            rw [fact_set _ _ _ (by rw [overP_len l fs k hkl]; exact hlt), overP_step l fs k HFK.out] at h3
            exact h3
        case measure => simp [intOf]; omega
    · have hke : k = fs.length := by omega
      subst hke
      have HBK := Lib.hid hbk
      have HBW := Lib.hid hb
      clear hb hbk
      rw [overP_all] at HBK
      go_wp2_with fail
      go_ret
      exact ⟨w.heap.size + 1, rfl, by omega, HBK.out, HBW.out⟩

end Go.Proofs.Ytejnjaikalckiaa
