/- The contract of link.Link on two whole trees: its image, or its fault, is the plain account's. -/
import Derived.Test.YtnmpfpnldcgbaaaDoorLnk4
import Derived.Test.YtnmpfpnldcgbaaaDoorLnk5
namespace Go.Proofs.YtnmpfpnldcgbaaaDoor
open Go.RowKit Go.Maps

theorem Tryd.sizeImage : (Tryd.prog.info? 60).map (·.size) = some 3 := by kernel_rfl
theorem ret_blk4 {P : Program} {fn : Func} {s u z q : Tmp} {ty t : TypeId} (h : fn.results = #[.cell s ty, .tmp u, .tmp z, .tmp q]) {a : Act} {W : World} {g : Nat} {cs : List Value} {d : TypeDesc} {R : Ending → World → Prop} {x y r : Value} (hs : a.tmps.getD s undef = .pointer (some ⟨g, 0, none⟩))
    (hb : Blk W g cs t) (hu : P.underlying ty = some d) (hd : d.isRow = true) (hi : (P.info? ty).map (·.size) = some cs.length) (hx : a.tmps.getD u undef = x) (hy : a.tmps.getD z undef = y) (hq : a.tmps.getD q undef = r) (hdf : a.defers = []) (hR : R (.returned (.tuple #[.agg cs.toArray, x, y, r])) W) :
    bodyPost P fn R .ret a W := by
  refine bodyPost_ret ?_ hdf hR
  have hl := run_loadVar_mid (P := P) W g 0 ty cs d (fun j v hj => by rw [Nat.zero_add, hb.cell j]; exact hj) hu hd hi
  have hs' : a.tmps[s]?.getD undef = .pointer (some ⟨g, 0, none⟩) := by rw [← hs]; simp
  have hx' : a.tmps[u]?.getD undef = x := by rw [← hx]; simp
  have hy' : a.tmps[z]?.getD undef = y := by rw [← hy]; simp
  have hq' : a.tmps[q]?.getD undef = r := by rw [← hq]; simp
  simp [results, h, hs', asAddr, hl, hx', hy', hq']

def imgCells (v : Value) (libs main : Nat) : List Value := [v, .int .i64 libs, .int .i64 main]
def LinkPost (w : World) (r : Img × Nat × Bool × Int) (e : Ending) (w' : World) : Prop :=
  ∃ v, e = .returned (.tuple #[.agg (imgCells v r.1.libs r.1.main).toArray, .int .i64 (r.2.1 : Int), .bool r.2.2.1, .int .i64 r.2.2.2]) ∧ CodsAt w' r.1.codes (fun b => w.heap.size ≤ b) v ∧ Below w.heap.size w w'

structure LiSt (w : World) (na nb ic : List Value) (cs : List Cod) (libs : Nat) (v : Value) (W : World) : Prop where
  a : Blk W w.heap.size na 25
  b : Blk W (w.heap.size + 1) nb 25
  r : Blk W (w.heap.size + 1 + 1) ic 60
  s : LkSt W (w.heap.size + 1 + 1 + 1) (w.heap.size + 1 + 1 + 1 + 1) (w.heap.size + 1 + 1 + 1) cs libs v
  k : Below w.heap.size w W
section
variable {w W W' : World} {na nb ic : List Value} {cs cs' : List Cod} {libs : Nat} {v v' : Value}
theorem LiSt.call (h : LiSt w na nb ic cs libs v W) (hb : Below (w.heap.size + 1 + 1 + 1) W W') (hs : LkSt W' (w.heap.size + 1 + 1 + 1) (w.heap.size + 1 + 1 + 1 + 1) (w.heap.size + 1 + 1 + 1) cs' libs v') : LiSt w na nb ic cs' libs v' W' :=
  ⟨(hb.block _ (by omega)).trans h.a, (hb.block _ (by omega)).trans h.b, (hb.block _ (by omega)).trans h.r, hs, h.k.trans (hb.mono (by omega))⟩
theorem LiSt.below (h : LiSt w na nb ic cs libs v W) (hb : Below W.heap.size W W') : LiSt w na nb ic cs libs v W' :=
  h.call (hb.mono (by have := h.s.l.lt; omega)) (h.s.below hb)
theorem LiSt.alloc (h : LiSt w na nb ic cs libs v W) (o : Obj) : LiSt w na nb ic cs libs v (W.alloc o) := h.below ((Below.refl _ _).alloc (Nat.le_refl _) _)
theorem LiSt.drew (h : LiSt w na nb ic cs libs v W) : LiSt w na nb ic cs libs v W.drew := h.below (Below.refl _ _).drew
/- How many are of the libraries is told. -/
theorem LiSt.told (h : LiSt w na nb ic cs libs v W) (n : Nat) : LiSt w na nb ic cs n v (W.setCell ⟨w.heap.size + 1 + 1 + 1 + 1, 1, none⟩ (.int .i64 n)) := by
  refine ⟨h.a.setOther _ _ (by show w.heap.size ≠ w.heap.size + 1 + 1 + 1 + 1; omega), h.b.setOther _ _ (by show w.heap.size + 1 ≠ w.heap.size + 1 + 1 + 1 + 1; omega), h.r.setOther _ _ (by show w.heap.size + 1 + 1 ≠ w.heap.size + 1 + 1 + 1 + 1; omega), ⟨h.s.l.setSame 1 _, ?_, h.s.m.same (Below.heap_setCell _ _ _ _ (by show w.heap.size + 1 + 1 + 1 ≠ w.heap.size + 1 + 1 + 1 + 1; omega)), h.s.lo, h.s.ne⟩, h.k.setCell (by show w.heap.size ≤ w.heap.size + 1 + 1 + 1 + 1; omega) _⟩
  exact h.s.c.keep fun b hb _ => ⟨hb, Below.heap_setCell _ _ _ _ hb.2.1⟩
end
theorem LiSt.new (w : World) (na nb ic : List Value) : LiSt w na nb ic [] 0 (.slice none 0 0) (((((w.alloc (.cells na.toArray 25)).alloc (.cells nb.toArray 25)).alloc (.cells ic.toArray 60)).alloc (.map #[] 0)).alloc (.cells (lkCells (.slice none 0 0) 0 (w.heap.size + 1 + 1 + 1)).toArray 98)) := by
  have e1 : (w.alloc (.cells na.toArray 25)).heap.size = w.heap.size + 1 := by simp
  have e2 : ((w.alloc (.cells na.toArray 25)).alloc (.cells nb.toArray 25)).heap.size = w.heap.size + 1 + 1 := by simp
  have e3 : (((w.alloc (.cells na.toArray 25)).alloc (.cells nb.toArray 25)).alloc (.cells ic.toArray 60)).heap.size = w.heap.size + 1 + 1 + 1 := by simp
  have e4 : ((((w.alloc (.cells na.toArray 25)).alloc (.cells nb.toArray 25)).alloc (.cells ic.toArray 60)).alloc (.map #[] 0)).heap.size = w.heap.size + 1 + 1 + 1 + 1 := by simp
  refine ⟨((((Blk.new w _ _).alloc _).alloc _).alloc _).alloc _, ?_, ?_, ⟨?_, CodsAt.nil _ _, ?_, ⟨by omega, by omega⟩, by omega⟩, ?_⟩
  · have h := Blk.new (w.alloc (.cells na.toArray 25)) nb 25
    rw [e1] at h
    exact ((h.alloc _).alloc _).alloc _
  · have h := Blk.new ((w.alloc (.cells na.toArray 25)).alloc (.cells nb.toArray 25)) ic 60
    rw [e2] at h
    exact (h.alloc _).alloc _
  · have h := Blk.new ((((w.alloc (.cells na.toArray 25)).alloc (.cells nb.toArray 25)).alloc (.cells ic.toArray 60)).alloc (.map #[] 0)) (lkCells (.slice none 0 0) 0 (w.heap.size + 1 + 1 + 1)) 98
    rw [e4] at h
    exact h
  · have h := World.ownsMap_made (H := Unit) (((w.alloc (.cells na.toArray 25)).alloc (.cells nb.toArray 25)).alloc (.cells ic.toArray 60)) Tryd.prog 9 (plainElem Tryd.prog 3)
    rw [e3] at h
    exact ⟨0, _, h.alloc _, by simp, ⟨[], rfl⟩, fun s => ⟨rfl, fun k hk => by simp [findN] at hk⟩⟩
  · exact (((((Below.refl _ _).alloc (Nat.le_refl _) _).alloc (by simp) _).alloc (by simp; omega) _).alloc (by simp; omega) _).alloc (by simp; omega) _

/- WALK -/
set_option maxRecDepth 100000 in
set_option maxHeartbeats 2000000 in
theorem link_any {w : World} {a b : T} {av bv : Value} {Sa Sb : Nat → Prop} (ha : KAt 25 w a.kids Sa av) (hb : KAt 25 w b.kids Sb bv) (hwa : a.whole) (hwb : b.whole) (hsa : a.size ≤ 4990) (hsb : b.size ≤ 4990)
    (hna : NamesOk a.kids) (hnb : NamesOk b.kids) (hya : ∀ t ∈ a.kids, YOk (lowerI t).list) (hyb : ∀ t ∈ b.kids, YOk (lowerI t).list) :
    Calls Tryd.prog 26 #[NodeV a av, NodeV b bv] w (LinkPost w (linkL a b)) := by
  have hmm := @run_makeMap Tryd.prog
  unfold NodeV
  obtain ⟨W1, hW1, HL1⟩ : ∃ W1, (((((w.alloc (.cells (nodeCells a av).toArray 25)).alloc (.cells (nodeCells b bv).toArray 25)).alloc (.cells (imgCells (.slice none 0 0) 0 0).toArray 60)).alloc (.map #[] 0)).alloc (.cells (lkCells (.slice none 0 0) 0 (w.heap.size + 1 + 1 + 1)).toArray 98)) = W1 ∧ Hid (LiSt w (nodeCells a av) (nodeCells b bv) (imgCells (.slice none 0 0) 0 0) [] 0 (.slice none 0 0) W1) := ⟨_, rfl, Lib.hid (LiSt.new _ _ _ _)⟩
  have HA := Lib.hid ha
  have HBK := Lib.hid hb
  have HP := Lib.hid (And.intro (And.intro hwa hsa) (And.intro hna hya))
  have HQ := Lib.hid (And.intro (And.intro hwb hsb) (And.intro hnb hyb))
  have HLA := Lib.hid (show a.kids.length ≤ 4990 from by have h1 := len_sizes a.kids; have h2 : a.size = 1 + sizes a.kids := by cases a; rw [size_mk]; rfl
                                                         omega)
  have HLB := Lib.hid (show b.kids.length ≤ 4990 from by have h1 := len_sizes b.kids; have h2 : b.size = 1 + sizes b.kids := by cases b; rw [size_mk]; rfl
                                                         omega)
  clear ha hb hwa hwb hsa hsb hna hnb hya hyb
  go_enter Tryd.func26, Tryd.ntmps26
  go_wp2_with ((with_reducible refine at_ld 25 (.tmp 2) ?_); refine wpList_load_blk rfl 25 (.tmp 2) rfl w.heap.size (nodeCells a av) rfl (by rw [hW1]; exact HL1.out.a) Tryd.underlying25 rfl Tryd.sizeNode ?_)
  refine calls_at W1 hW1 ?_
  clear hW1 hmm
  refine (add_any HL1.out.s (t := a) (kv := av) (KAt.keep HA.out fun b _ hl => ⟨by omega, HL1.out.k.block b hl⟩) HP.out.1.1 HP.out.1.2 HP.out.2.1 (by simp)).mono ?_
  rintro e w2 ⟨v1, rfl, hs2, hb2⟩
  have HL2 := Lib.hid (HL1.out.call hb2 hs2)
  have hlen1 := addL_length a.kids []
  clear hs2 hb2 HL1
  cases hq1 : addL [] a.kids with
  | mk cs r1 =>
    rw [hq1] at HL2 hlen1
    cases r1 with
    | some p =>
      have HX := Lib.hid (show linkL a b = (img0, p, false, 30) by unfold linkL; rw [hq1])
      go_wp2_with ((with_reducible refine at_st 60 (.tmp 4) ?_); refine wpList_store_blk rfl 60 (.tmp 4) (.tmp 30) rfl (w.heap.size + 1 + 1) (imgCells (.slice none 0 0) 0 0) rfl rfl HL2.out.r Tryd.sizeImage rfl (by intro x hx; simp only [imgCells, List.mem_cons, List.not_mem_nil, or_false] at hx; rcases hx with rfl | rfl | rfl <;> rfl) ?_)
      refine ret_blk4 (cs := (imgCells (.slice none 0 0) 0 0)) Tryd.results26 rfl (HL2.out.r.rowSame _) Tryd.underlying60 rfl Tryd.sizeImage rfl rfl rfl rfl ?_
      rw [HX.out]
      exact ⟨_, rfl, CodsAt.nil _ _, Below.row HL2.out.k (by omega) _⟩
    | none =>
      have HF1 := Lib.hid (addL_none _ _ _ hq1)
      obtain ⟨va1, vc1, rfl⟩ := HL2.out.s.c.slice
      have l0 : w2.cell? ⟨w.heap.size + 1 + 1 + 1 + 1, 0, none⟩ = some (.slice va1 cs.length vc1) := HL2.out.s.l.cell 0
      have l1 : w2.cell? ⟨w.heap.size + 1 + 1 + 1 + 1, 1, none⟩ = some (.int .i64 0) := HL2.out.s.l.cell 1
      have lf := HL2.out.s.l.frozen 1
      obtain ⟨W3, hW3, HL3⟩ : ∃ W3, w2.setCell ⟨w.heap.size + 1 + 1 + 1 + 1, 1, none⟩ (.int .i64 (cs.length : Int)) = W3 ∧ Hid (LiSt w (nodeCells a av) (nodeCells b bv) (imgCells (.slice none 0 0) 0 0) cs cs.length (.slice va1 cs.length vc1) W3) := ⟨_, rfl, Lib.hid (HL2.out.told cs.length)⟩
      go_wp2_with ((with_reducible refine at_ld 25 (.tmp 3) ?_); refine wpList_load_blk rfl 25 (.tmp 3) rfl (w.heap.size + 1) (nodeCells b bv) rfl (by first | exact HL3.out.b | (rw [hW3]; exact HL3.out.b)) Tryd.underlying25 rfl Tryd.sizeNode ?_)
      first | refine calls_at W3 hW3 ?_ | skip
      clear hW3 l0 l1 lf HL2
      refine (add_any HL3.out.s (t := b) (kv := bv) (KAt.keep HBK.out fun b _ hl => ⟨by omega, HL3.out.k.block b hl⟩) HQ.out.1.1 HQ.out.1.2 HQ.out.2.1 (by have := HLA.out; simp at hlen1; omega)).mono ?_
      rintro e w4 ⟨v2, rfl, hs4, hb4⟩
      have HL4 := Lib.hid (HL3.out.call hb4 hs4)
      clear hs4 hb4 HL3
      have hlen2 := addL_length b.kids cs
      cases hq2 : addL cs b.kids with
      | mk ds r2 =>
        rw [hq2] at HL4 hlen2
        cases r2 with
        | some p =>
          have HX := Lib.hid (show linkL a b = (img0, p, true, 30) by unfold linkL; rw [hq1]; simp only; rw [hq2])
          go_wp2_with ((with_reducible refine at_st 60 (.tmp 4) ?_); refine wpList_store_blk rfl 60 (.tmp 4) (.tmp 49) rfl (w.heap.size + 1 + 1) (imgCells (.slice none 0 0) 0 0) rfl rfl HL4.out.r Tryd.sizeImage rfl (by intro x hx; simp only [imgCells, List.mem_cons, List.not_mem_nil, or_false] at hx; rcases hx with rfl | rfl | rfl <;> rfl) ?_)
          refine ret_blk4 (cs := (imgCells (.slice none 0 0) 0 0)) Tryd.results26 rfl (HL4.out.r.rowSame _) Tryd.underlying60 rfl Tryd.sizeImage rfl rfl rfl rfl ?_
          rw [HX.out]
          exact ⟨_, rfl, CodsAt.nil _ _, Below.row HL4.out.k (by omega) _⟩
        | none =>
          have HF2 := Lib.hid (addL_none _ _ _ hq2)
          have HYD := Lib.hid (show ∀ c ∈ ds, YOk c.list from by
            intro c hc
            rw [HF2.out, HF1.out, List.nil_append, List.mem_append] at hc
            rcases hc with hc | hc
            · obtain ⟨t, ht, rfl⟩ := List.mem_map.1 hc
              exact HP.out.2.2 t (List.mem_filter.1 ht).1
            · obtain ⟨t, ht, rfl⟩ := List.mem_map.1 hc
              exact HQ.out.2.2 t (List.mem_filter.1 ht).1)
          obtain ⟨va, vc, rfl⟩ := HL4.out.s.c.slice
          have l0 : w4.cell? ⟨w.heap.size + 1 + 1 + 1 + 1, 0, none⟩ = some (.slice va ds.length vc) := HL4.out.s.l.cell 0
          rcases HL4.out.s.c.form with ⟨hv0, hnil⟩ | ⟨g, cap, hv0, hg, hcap, hcm, hget⟩
          · have hnil : ds = [] := hnil
            have hn0 : ds.length = 0 := by rw [hnil]; rfl
            have HALL := Lib.hid (show ((allL ds cs.length 0 ds).2.2 != 0) = false by rw [hnil]; rfl)
            go_wp2_with fail
            refine wp_loop_rounds 1 ?_
            rw [rounds_succ]
            go_wp2_with fail
            refine (lmain_any HL4.out.s).mono ?_
            rintro e w9 ⟨rfl, rfl⟩
            have HX := Lib.hid (show linkL a b = match mainL ds cs.length with | none => (img0, 0, true, 55) | some m => (⟨ds, cs.length, m⟩, 0, false, 0) by unfold linkL; rw [hq1]; simp only; rw [hq2]; simp only; rw [HALL.out]; rfl)
            cases hm : mainL ds cs.length with
            | none =>
              rw [hm] at HX
              go_wp2_with ((with_reducible refine at_st 60 (.tmp 4) ?_); refine wpList_store_blk rfl 60 (.tmp 4) (.tmp 87) rfl (w.heap.size + 1 + 1) (imgCells (.slice none 0 0) 0 0) rfl rfl HL4.out.r Tryd.sizeImage rfl (by intro x hx; simp only [imgCells, List.mem_cons, List.not_mem_nil, or_false] at hx; rcases hx with rfl | rfl | rfl <;> rfl) ?_)
              refine ret_blk4 (cs := (imgCells (.slice none 0 0) 0 0)) Tryd.results26 rfl (HL4.out.r.rowSame _) Tryd.underlying60 rfl Tryd.sizeImage rfl rfl rfl rfl ?_
              rw [HX.out]
              exact ⟨_, rfl, CodsAt.nil _ _, Below.row HL4.out.k (by omega) _⟩
            | some m =>
              rw [hm] at HX
              go_wp2_with fail
              refine wp_region_held_drew (S := fun W => Blk W (w.heap.size + 1 + 1 + 1 + 1) (lkCells (.slice va ds.length vc) cs.length (w.heap.size + 1 + 1 + 1)) 98) (by kernel_rfl) HL4.out.drew.s.l (fun hS => ?_)
              refine wpAnyH_take (i := 0) (oi := ⟨some 88, _, _, _, _, _⟩) (v := .pointer (some ⟨w.heap.size + 1 + 1 + 1 + 1, 0, none⟩)) rfl (by kernel_rfl) (by kernel_rfl) (by kernel_rfl) (fun _ _ _ h => h) (Or.inl ⟨by rfl, fun W _ => by go_simp⟩) hS ?_
              try simp only [Act.put, List.setIfInBounds_toArray, List.set_cons_zero, List.set_cons_succ]
              refine wpAnyH_take (i := 1) (oi := ⟨some 89, _, _, _, _, _⟩) (v := .pointer (some ⟨w.heap.size + 1 + 1 + 1 + 1, 0, none⟩)) rfl (by kernel_rfl) (by kernel_rfl) (by kernel_rfl) (fun _ _ _ h => h) (Or.inl ⟨by rfl, fun W _ => by go_simp⟩) hS ?_
              try simp only [Act.put, List.setIfInBounds_toArray, List.set_cons_zero, List.set_cons_succ]
              refine wpAnyH_take (i := 2) (oi := ⟨some 90, _, _, _, _, _⟩) (v := .pointer (some ⟨w.heap.size + 1 + 1 + 1 + 1, 0, none⟩)) rfl (by kernel_rfl) (by kernel_rfl) (by kernel_rfl) (fun _ _ _ h => h) (Or.inl ⟨by rfl, fun W _ => by go_simp⟩) hS ?_
              try simp only [Act.put, List.setIfInBounds_toArray, List.set_cons_zero, List.set_cons_succ]
              refine wpAnyH_take (i := 3) (oi := ⟨some 91, _, _, _, _, _⟩) (v := .slice va ds.length vc) rfl (by kernel_rfl) (by kernel_rfl) (by kernel_rfl) (fun _ _ _ h => h) (Or.inl ⟨by rfl, fun W hW => by have hcx : W.cell? ⟨(w.heap.size + 1 + 1 + 1 + 1), 0, none⟩ = some (.slice va ds.length vc) := (hW).cell 0; go_simp⟩) hS ?_
              try simp only [Act.put, List.setIfInBounds_toArray, List.set_cons_zero, List.set_cons_succ]
              refine wpAnyH_take (i := 4) (oi := ⟨some 92, _, _, _, _, _⟩) (v := .pointer (some ⟨w.heap.size + 1 + 1 + 1 + 1, 0, none⟩)) rfl (by kernel_rfl) (by kernel_rfl) (by kernel_rfl) (fun _ _ _ h => h) (Or.inl ⟨by rfl, fun W _ => by go_simp⟩) hS ?_
              try simp only [Act.put, List.setIfInBounds_toArray, List.set_cons_zero, List.set_cons_succ]
              refine wpAnyH_take (i := 5) (oi := ⟨some 93, _, _, _, _, _⟩) (v := .pointer (some ⟨w.heap.size + 1 + 1 + 1 + 1, 0, none⟩)) rfl (by kernel_rfl) (by kernel_rfl) (by kernel_rfl) (fun _ _ _ h => h) (Or.inl ⟨by rfl, fun W _ => by go_simp⟩) hS ?_
              try simp only [Act.put, List.setIfInBounds_toArray, List.set_cons_zero, List.set_cons_succ]
              refine wpAnyH_take (i := 6) (oi := ⟨some 94, _, _, _, _, _⟩) (v := .pointer (some ⟨w.heap.size + 1 + 1 + 1 + 1, 1, none⟩)) rfl (by kernel_rfl) (by kernel_rfl) (by kernel_rfl) (fun _ _ _ h => h) (Or.inl ⟨by rfl, fun W _ => by go_simp⟩) hS ?_
              try simp only [Act.put, List.setIfInBounds_toArray, List.set_cons_zero, List.set_cons_succ]
              refine wpAnyH_take (i := 7) (oi := ⟨some 95, _, _, _, _, _⟩) (v := .int .i64 (cs.length : Int)) rfl (by kernel_rfl) (by kernel_rfl) (by kernel_rfl) (fun _ _ _ h => h) (Or.inl ⟨by rfl, fun W hW => by have hcx : W.cell? ⟨(w.heap.size + 1 + 1 + 1 + 1), 1, none⟩ = some (.int .i64 (cs.length : Int)) := (hW).cell 1; go_simp⟩) hS ?_
              try simp only [Act.put, List.setIfInBounds_toArray, List.set_cons_zero, List.set_cons_succ]
              refine wpAnyH_take (i := 8) (oi := ⟨some 96, _, _, _, _, _⟩) (v := .int .i64 (m : Int)) rfl (by kernel_rfl) (by kernel_rfl) (by kernel_rfl) (fun _ _ _ h => h) (Or.inl ⟨by rfl, fun W _ => by go_simp⟩) hS ?_
              try simp only [Act.put, List.setIfInBounds_toArray, List.set_cons_zero, List.set_cons_succ]
              refine wpAnyH_take (i := 9) (oi := ⟨some 97, _, _, _, _, _⟩) (v := .agg #[.slice va ds.length vc, .int .i64 (cs.length : Int), .int .i64 (m : Int)]) rfl (by kernel_rfl) (by kernel_rfl) (by kernel_rfl) (fun _ _ _ h => h) (Or.inl ⟨by rfl, fun W _ => by go_simp⟩) hS ?_
              try simp only [Act.put, List.setIfInBounds_toArray, List.set_cons_zero, List.set_cons_succ]
              refine AnyH.only (i := 10) (o := ⟨none, _, _, _, _, _⟩) (by kernel_rfl) rfl (by rfl) (fun K hK => ?_)
              refine wp_store_blk 60 (.tmp 4) (.tmp 97) rfl (w.heap.size + 1 + 1) (imgCells (.slice va ds.length vc) cs.length m) rfl rfl HL4.out.drew.r Tryd.sizeImage rfl (by intro x hx; simp only [imgCells, List.mem_cons, List.not_mem_nil, or_false] at hx; rcases hx with rfl | rfl | rfl <;> rfl) ?_
              have hS1 := hS.rowOther (w.heap.size + 1 + 1) (imgCells (.slice va ds.length vc) cs.length m).toArray (by omega)
              clear hS
              have hS := hS1
              clear hS1
              refine hK.out _ _ hS ?_
              clear hK K
              try simp only [Act.put]
              refine wpAnyH_take (i := 11) (oi := ⟨some 5, _, _, _, _, _⟩) (v := .int .i64 0) rfl (by kernel_rfl) (by kernel_rfl) (by kernel_rfl) (fun _ _ _ h => h) (Or.inl ⟨by rfl, fun W _ => by go_simp⟩) hS ?_
              try simp only [Act.put, List.setIfInBounds_toArray, List.set_cons_zero, List.set_cons_succ]
              refine wpAnyH_take (i := 12) (oi := ⟨some 6, _, _, _, _, _⟩) (v := .bool false) rfl (by kernel_rfl) (by kernel_rfl) (by kernel_rfl) (fun _ _ _ h => h) (Or.inl ⟨by rfl, fun W _ => by go_simp⟩) hS ?_
              try simp only [Act.put, List.setIfInBounds_toArray, List.set_cons_zero, List.set_cons_succ]
              refine wpAnyH_take (i := 13) (oi := ⟨some 7, _, _, _, _, _⟩) (v := .int .i64 0) rfl (by kernel_rfl) (by kernel_rfl) (by kernel_rfl) (fun _ _ _ h => h) (Or.inl ⟨by rfl, fun W _ => by go_simp⟩) hS ?_
              try simp only [Act.put, List.setIfInBounds_toArray, List.set_cons_zero, List.set_cons_succ]
              refine wpAnyH_done (by kernel_rfl) ?_ _
              clear hS
              go_wp2_with fail
              refine ret_blk4 (cs := imgCells (.slice va ds.length vc) cs.length m) Tryd.results26 rfl (HL4.out.drew.r.rowSame _) Tryd.underlying60 rfl Tryd.sizeImage rfl rfl rfl rfl ?_
              rw [HX.out]
              exact ⟨_, rfl, HL4.out.drew.s.c.keep fun b hb hl => ⟨by have := hb.1; omega, setRow_other _ _ _ _ (by have := hb.1; omega)⟩, Below.row HL4.out.drew.k (by omega) _⟩
          · obtain ⟨rfl, _, rfl⟩ : va = some ⟨g, 0, none⟩ ∧ True ∧ vc = cap := by simpa using hv0
            have HGET := Lib.hid hget
            have HCAP := Lib.hid hcap
            have HLD := Lib.hid (show ds.length ≤ 9990 from by have := HLA.out; have := HLB.out; simp at hlen1; simp at hlen2; omega)
            have hg4 := hg.2
            clear hv0 hget hcap hlen1 hlen2 hg
            unfold maxLen at hcm
            go_wp2_with fail
            go_loopg [57] ds.length (fun gk i wr => ∃ k : Nat, k ≤ ds.length ∧ ds.length ≤ k + gk ∧ i = .int .i64 k ∧ LiSt w (nodeCells a av) (nodeCells b bv) (imgCells (.slice none 0 0) 0 0) ds cs.length (.slice (some ⟨g, 0, none⟩) ds.length vc) wr ∧ Below w4.heap.size w4 wr ∧ allL ds cs.length 0 ds = allL ds cs.length k (ds.drop k))
            case atStart => exact ⟨0, by omega, by omega, rfl, HL4.out, Below.refl _ _, by simp⟩
            case round =>
              obtain ⟨k, hk, hgk, rfl, hli, hbel, hall⟩ := hrel
              have HLI := Lib.hid hli
              have HBE := Lib.hid hbel
              have HALL0 := Lib.hid hall
              have hzw := hbel.size
              clear hli hbel hall
              by_cases hlt : k < ds.length
              · obtain ⟨pv, lv, hr, hca⟩ := HGET.out k ds[k] (List.getElem?_eq_getElem hlt)
                have HYC := Lib.hid (HYD.out ds[k] (List.getElem_mem hlt))
                have HDR := Lib.hid (show ds.drop k = ds[k] :: ds.drop (k + 1) from List.drop_eq_getElem_cons hlt)
                generalize ds[k] = cd at hr hca HYC HDR
                have HALL1 := Lib.hid (show allL ds cs.length 0 ds = bif (chkL ds cs.length cd.list).2 != 0 then ((chkL ds cs.length cd.list).1, decide (cs.length ≤ k), (chkL ds cs.length cd.list).2) else allL ds cs.length (k + 1) (ds.drop (k + 1)) by rw [HALL0.out, HDR.out, allL_cons])
                obtain ⟨pa, pc, rfl⟩ := hca.1.slice
                obtain ⟨la, lc, rfl⟩ := hca.2.slice
                have HR := Lib.hid (show wr.rangeAt g (k * 3) [.string cd.name, .slice pa cd.params.length pc, .slice la cd.list.length lc] from rangeAt_below hr HBE.out hg4)
                have HIN := Lib.hid ((hca.2.below HBE.out).alloc (.cells [.string cd.name, .slice pa cd.params.length pc, .slice la cd.list.length lc].toArray 55))
                have HLN := Lib.hid (HLI.out.alloc (.cells [.string cd.name, .slice pa cd.params.length pc, .slice la cd.list.length lc].toArray 55))
                have HBN := Lib.hid (HBE.out.alloc hzw (.cells [.string cd.name, .slice pa cd.params.length pc, .slice la cd.list.length lc].toArray 55))
                have HBC := Lib.hid (Blk.new wr [.string cd.name, .slice pa cd.params.length pc, .slice la cd.list.length lc] 55)
                have hcap := HCAP.out
                have hld := HLD.out
                clear hr hca
                go_wp2_with (first
                  | ((with_reducible refine at_ld 55 (.tmp 60) ?_); refine wpList_load_mid rfl 55 (.tmp 60) rfl g (k * 3) rfl [.string cd.name, .slice pa cd.params.length pc, .slice la cd.list.length lc] _ HR.out Tryd.underlying55 rfl Tryd.sizeCode ?_)
                  | ((with_reducible refine at_st 55 (.tmp 14) ?_); refine wpList_store_new rfl 55 (.tmp 14) (.tmp 61) rfl [.string cd.name, .slice pa cd.params.length pc, .slice la cd.list.length lc] (old := codCells cod0 (.slice none 0 0) (.slice none 0 0)) rfl rfl Tryd.sizeCode rfl (by intro x hx; simp only [List.mem_cons, List.not_mem_nil, or_false] at hx; rcases hx with rfl | rfl | rfl <;> rfl) ?_)
                  | ((with_reducible refine at_ld 55 (.tmp 14) ?_); refine wpList_load_blk rfl 55 (.tmp 14) rfl wr.heap.size [.string cd.name, .slice pa cd.params.length pc, .slice la cd.list.length lc] rfl HBC.out Tryd.underlying55 rfl Tryd.sizeCode ?_))
                refine (check_any HLN.out.s HIN.out HYC.out).mono ?_
                rintro e w5 ⟨rfl, hb5⟩
                have HL5 := Lib.hid (HLN.out.below hb5)
                have HB5 := Lib.hid (HBN.out.trans (hb5.mono (by simp; omega)))
                clear hb5
                generalize chkL ds cs.length cd.list = r at *
                obtain ⟨rp, rc⟩ := r
                by_cases hr0 : rc = 0
                · subst hr0
                  go_wp2_with fail
                  go_roundg (gk - 1)
                  case measure => omega
                  case rel => exact ⟨k + 1, by omega, by omega, by go_num, HL5.out, HB5.out, by rw [HALL1.out]; rfl⟩
                · have hr1 : (rc != 0) = true := by simpa using hr0
                  have HAL := Lib.hid (show allL ds cs.length 0 ds = (rp, decide (cs.length ≤ k), rc) by rw [HALL1.out]; show (bif rc != 0 then _ else _) = _; rw [hr1]; rfl)
                  have HX := Lib.hid (show linkL a b = (img0, rp, decide (cs.length ≤ k), rc) by unfold linkL; rw [hq1]; simp only; rw [hq2]; simp only; rw [HAL.out]; simp only [hr1]; rfl)
                  go_wp2_with fail
                  refine wp_region_held_drew (S := fun W => Blk W (w.heap.size + 1 + 1 + 1 + 1) (lkCells (.slice (some ⟨g, 0, none⟩) ds.length vc) cs.length (w.heap.size + 1 + 1 + 1)) 98) (by kernel_rfl) HL5.out.drew.s.l (fun hS => ?_)
                  refine wpAnyH_take (i := 0) (oi := ⟨some 70, _, _, _, _, _⟩) (v := .agg #[.slice none 0 0, .int .i64 0, .int .i64 0]) rfl (by kernel_rfl) (by kernel_rfl) (by kernel_rfl) (fun _ _ _ h => h) (Or.inl ⟨by rfl, fun W _ => by go_simp⟩) hS ?_
                  try simp only [Act.put, List.setIfInBounds_toArray, List.set_cons_zero, List.set_cons_succ]
                  refine wpAnyH_take (i := 1) (oi := ⟨some 71, _, _, _, _, _⟩) (v := .int .i64 (rp : Int)) rfl (by kernel_rfl) (by kernel_rfl) (by kernel_rfl) (fun _ _ _ h => h) (Or.inl ⟨by rfl, fun W _ => by go_simp⟩) hS ?_
                  try simp only [Act.put, List.setIfInBounds_toArray, List.set_cons_zero, List.set_cons_succ]
                  refine wpAnyH_take (i := 2) (oi := ⟨some 72, _, _, _, _, _⟩) (v := .int .i64 (k : Int)) rfl (by kernel_rfl) (by kernel_rfl) (by kernel_rfl) (fun _ _ _ h => h) (Or.inl ⟨by rfl, fun W _ => by go_simp⟩) hS ?_
                  try simp only [Act.put, List.setIfInBounds_toArray, List.set_cons_zero, List.set_cons_succ]
                  refine wpAnyH_take (i := 3) (oi := ⟨some 73, _, _, _, _, _⟩) (v := .pointer (some ⟨w.heap.size + 1 + 1 + 1 + 1, 0, none⟩)) rfl (by kernel_rfl) (by kernel_rfl) (by kernel_rfl) (fun _ _ _ h => h) (Or.inl ⟨by rfl, fun W _ => by go_simp⟩) hS ?_
                  try simp only [Act.put, List.setIfInBounds_toArray, List.set_cons_zero, List.set_cons_succ]
                  refine wpAnyH_take (i := 4) (oi := ⟨some 74, _, _, _, _, _⟩) (v := .pointer (some ⟨w.heap.size + 1 + 1 + 1 + 1, 0, none⟩)) rfl (by kernel_rfl) (by kernel_rfl) (by kernel_rfl) (fun _ _ _ h => h) (Or.inl ⟨by rfl, fun W _ => by go_simp⟩) hS ?_
                  try simp only [Act.put, List.setIfInBounds_toArray, List.set_cons_zero, List.set_cons_succ]
                  refine wpAnyH_take (i := 5) (oi := ⟨some 75, _, _, _, _, _⟩) (v := .pointer (some ⟨w.heap.size + 1 + 1 + 1 + 1, 1, none⟩)) rfl (by kernel_rfl) (by kernel_rfl) (by kernel_rfl) (fun _ _ _ h => h) (Or.inl ⟨by rfl, fun W _ => by go_simp⟩) hS ?_
                  try simp only [Act.put, List.setIfInBounds_toArray, List.set_cons_zero, List.set_cons_succ]
                  refine wpAnyH_take (i := 6) (oi := ⟨some 76, _, _, _, _, _⟩) (v := .int .i64 (cs.length : Int)) rfl (by kernel_rfl) (by kernel_rfl) (by kernel_rfl) (fun _ _ _ h => h) (Or.inl ⟨by rfl, fun W hW => by have hcx : W.cell? ⟨(w.heap.size + 1 + 1 + 1 + 1), 1, none⟩ = some (.int .i64 (cs.length : Int)) := (hW).cell 1; go_simp⟩) hS ?_
                  try simp only [Act.put, List.setIfInBounds_toArray, List.set_cons_zero, List.set_cons_succ]
                  refine wpAnyH_take (i := 7) (oi := ⟨some 77, _, _, _, _, _⟩) (v := .bool (decide ((k : Int) ≥ (cs.length : Int)))) rfl (by kernel_rfl) (by kernel_rfl) (by kernel_rfl) (fun _ _ _ h => h) (Or.inl ⟨by rfl, fun W _ => by go_simp⟩) hS ?_
                  try simp only [Act.put, List.setIfInBounds_toArray, List.set_cons_zero, List.set_cons_succ]
                  refine wpAnyH_take (i := 8) (oi := ⟨some 78, _, _, _, _, _⟩) (v := .int .i64 rc) rfl (by kernel_rfl) (by kernel_rfl) (by kernel_rfl) (fun _ _ _ h => h) (Or.inl ⟨by rfl, fun W _ => by go_simp⟩) hS ?_
                  try simp only [Act.put, List.setIfInBounds_toArray, List.set_cons_zero, List.set_cons_succ]
                  refine AnyH.only (i := 9) (o := ⟨none, _, _, _, _, _⟩) (by kernel_rfl) rfl (by rfl) (fun K hK => ?_)
                  refine wp_store_blk 60 (.tmp 4) (.tmp 70) rfl (w.heap.size + 1 + 1) (imgCells (.slice none 0 0) 0 0) rfl rfl HL5.out.drew.r Tryd.sizeImage rfl (by intro x hx; simp only [imgCells, List.mem_cons, List.not_mem_nil, or_false] at hx; rcases hx with rfl | rfl | rfl <;> rfl) ?_
                  have hS1 := hS.rowOther (w.heap.size + 1 + 1) (imgCells (.slice none 0 0) 0 0).toArray (by omega)
                  clear hS
                  have hS := hS1
                  clear hS1
                  refine hK.out _ _ hS ?_
                  clear hK K
                  try simp only [Act.put]
                  refine wpAnyH_take (i := 10) (oi := ⟨some 5, _, _, _, _, _⟩) (v := .int .i64 (rp : Int)) rfl (by kernel_rfl) (by kernel_rfl) (by kernel_rfl) (fun _ _ _ h => h) (Or.inl ⟨by rfl, fun W _ => by go_simp⟩) hS ?_
                  try simp only [Act.put, List.setIfInBounds_toArray, List.set_cons_zero, List.set_cons_succ]
                  refine wpAnyH_take (i := 11) (oi := ⟨some 6, _, _, _, _, _⟩) (v := .bool (decide ((k : Int) ≥ (cs.length : Int)))) rfl (by kernel_rfl) (by kernel_rfl) (by kernel_rfl) (fun _ _ _ h => h) (Or.inl ⟨by rfl, fun W _ => by go_simp⟩) hS ?_
                  try simp only [Act.put, List.setIfInBounds_toArray, List.set_cons_zero, List.set_cons_succ]
                  refine wpAnyH_take (i := 12) (oi := ⟨some 7, _, _, _, _, _⟩) (v := .int .i64 rc) rfl (by kernel_rfl) (by kernel_rfl) (by kernel_rfl) (fun _ _ _ h => h) (Or.inl ⟨by rfl, fun W _ => by go_simp⟩) hS ?_
                  try simp only [Act.put, List.setIfInBounds_toArray, List.set_cons_zero, List.set_cons_succ]
                  refine wpAnyH_done (by kernel_rfl) ?_ _
                  clear hS
                  go_wp2_with fail
                  refine ret_blk4 (cs := (imgCells (.slice none 0 0) 0 0)) Tryd.results26 rfl (HL5.out.drew.r.rowSame _) Tryd.underlying60 rfl Tryd.sizeImage rfl rfl rfl rfl ?_
                  rw [HX.out]
                  refine ⟨_, ?_, CodsAt.nil _ _, Below.row HL5.out.drew.k (by omega) _⟩
                  have hd : decide ((k : Int) ≥ (cs.length : Int)) = decide (cs.length ≤ k) := by simp
                  rw [hd]
                  rfl
              · have hE : allL ds cs.length 0 ds = (0, false, 0) := by rw [HALL0.out, List.drop_of_length_le (by omega)]; rfl
                have HALL := Lib.hid (show ((allL ds cs.length 0 ds).2.2 != 0) = false by rw [hE]; rfl)
                go_wp2_with fail
                refine (lmain_any HLI.out.s).mono ?_
                rintro e w9 ⟨rfl, rfl⟩
                have HX := Lib.hid (show linkL a b = match mainL ds cs.length with | none => (img0, 0, true, 55) | some m => (⟨ds, cs.length, m⟩, 0, false, 0) by unfold linkL; rw [hq1]; simp only; rw [hq2]; simp only; rw [HALL.out]; rfl)
                cases hm : mainL ds cs.length with
                | none =>
                  rw [hm] at HX
                  go_wp2_with ((with_reducible refine at_st 60 (.tmp 4) ?_); refine wpList_store_blk rfl 60 (.tmp 4) (.tmp 87) rfl (w.heap.size + 1 + 1) (imgCells (.slice none 0 0) 0 0) rfl rfl HLI.out.r Tryd.sizeImage rfl (by intro x hx; simp only [imgCells, List.mem_cons, List.not_mem_nil, or_false] at hx; rcases hx with rfl | rfl | rfl <;> rfl) ?_)
                  refine ret_blk4 (cs := (imgCells (.slice none 0 0) 0 0)) Tryd.results26 rfl (HLI.out.r.rowSame _) Tryd.underlying60 rfl Tryd.sizeImage rfl rfl rfl rfl ?_
                  rw [HX.out]
                  exact ⟨_, rfl, CodsAt.nil _ _, Below.row HLI.out.k (by omega) _⟩
                | some m =>
                  rw [hm] at HX
                  go_wp2_with fail
                  refine wp_region_held_drew (S := fun W => Blk W (w.heap.size + 1 + 1 + 1 + 1) (lkCells (.slice (some ⟨g, 0, none⟩) ds.length vc) cs.length (w.heap.size + 1 + 1 + 1)) 98) (by kernel_rfl) HLI.out.drew.s.l (fun hS => ?_)
                  refine wpAnyH_take (i := 0) (oi := ⟨some 88, _, _, _, _, _⟩) (v := .pointer (some ⟨w.heap.size + 1 + 1 + 1 + 1, 0, none⟩)) rfl (by kernel_rfl) (by kernel_rfl) (by kernel_rfl) (fun _ _ _ h => h) (Or.inl ⟨by rfl, fun W _ => by go_simp⟩) hS ?_
                  try simp only [Act.put, List.setIfInBounds_toArray, List.set_cons_zero, List.set_cons_succ]
                  refine wpAnyH_take (i := 1) (oi := ⟨some 89, _, _, _, _, _⟩) (v := .pointer (some ⟨w.heap.size + 1 + 1 + 1 + 1, 0, none⟩)) rfl (by kernel_rfl) (by kernel_rfl) (by kernel_rfl) (fun _ _ _ h => h) (Or.inl ⟨by rfl, fun W _ => by go_simp⟩) hS ?_
                  try simp only [Act.put, List.setIfInBounds_toArray, List.set_cons_zero, List.set_cons_succ]
                  refine wpAnyH_take (i := 2) (oi := ⟨some 90, _, _, _, _, _⟩) (v := .pointer (some ⟨w.heap.size + 1 + 1 + 1 + 1, 0, none⟩)) rfl (by kernel_rfl) (by kernel_rfl) (by kernel_rfl) (fun _ _ _ h => h) (Or.inl ⟨by rfl, fun W _ => by go_simp⟩) hS ?_
                  try simp only [Act.put, List.setIfInBounds_toArray, List.set_cons_zero, List.set_cons_succ]
                  refine wpAnyH_take (i := 3) (oi := ⟨some 91, _, _, _, _, _⟩) (v := .slice (some ⟨g, 0, none⟩) ds.length vc) rfl (by kernel_rfl) (by kernel_rfl) (by kernel_rfl) (fun _ _ _ h => h) (Or.inl ⟨by rfl, fun W hW => by have hcx : W.cell? ⟨(w.heap.size + 1 + 1 + 1 + 1), 0, none⟩ = some (.slice (some ⟨g, 0, none⟩) ds.length vc) := (hW).cell 0; go_simp⟩) hS ?_
                  try simp only [Act.put, List.setIfInBounds_toArray, List.set_cons_zero, List.set_cons_succ]
                  refine wpAnyH_take (i := 4) (oi := ⟨some 92, _, _, _, _, _⟩) (v := .pointer (some ⟨w.heap.size + 1 + 1 + 1 + 1, 0, none⟩)) rfl (by kernel_rfl) (by kernel_rfl) (by kernel_rfl) (fun _ _ _ h => h) (Or.inl ⟨by rfl, fun W _ => by go_simp⟩) hS ?_
                  try simp only [Act.put, List.setIfInBounds_toArray, List.set_cons_zero, List.set_cons_succ]
                  refine wpAnyH_take (i := 5) (oi := ⟨some 93, _, _, _, _, _⟩) (v := .pointer (some ⟨w.heap.size + 1 + 1 + 1 + 1, 0, none⟩)) rfl (by kernel_rfl) (by kernel_rfl) (by kernel_rfl) (fun _ _ _ h => h) (Or.inl ⟨by rfl, fun W _ => by go_simp⟩) hS ?_
                  try simp only [Act.put, List.setIfInBounds_toArray, List.set_cons_zero, List.set_cons_succ]
                  refine wpAnyH_take (i := 6) (oi := ⟨some 94, _, _, _, _, _⟩) (v := .pointer (some ⟨w.heap.size + 1 + 1 + 1 + 1, 1, none⟩)) rfl (by kernel_rfl) (by kernel_rfl) (by kernel_rfl) (fun _ _ _ h => h) (Or.inl ⟨by rfl, fun W _ => by go_simp⟩) hS ?_
                  try simp only [Act.put, List.setIfInBounds_toArray, List.set_cons_zero, List.set_cons_succ]
                  refine wpAnyH_take (i := 7) (oi := ⟨some 95, _, _, _, _, _⟩) (v := .int .i64 (cs.length : Int)) rfl (by kernel_rfl) (by kernel_rfl) (by kernel_rfl) (fun _ _ _ h => h) (Or.inl ⟨by rfl, fun W hW => by have hcx : W.cell? ⟨(w.heap.size + 1 + 1 + 1 + 1), 1, none⟩ = some (.int .i64 (cs.length : Int)) := (hW).cell 1; go_simp⟩) hS ?_
                  try simp only [Act.put, List.setIfInBounds_toArray, List.set_cons_zero, List.set_cons_succ]
                  refine wpAnyH_take (i := 8) (oi := ⟨some 96, _, _, _, _, _⟩) (v := .int .i64 (m : Int)) rfl (by kernel_rfl) (by kernel_rfl) (by kernel_rfl) (fun _ _ _ h => h) (Or.inl ⟨by rfl, fun W _ => by go_simp⟩) hS ?_
                  try simp only [Act.put, List.setIfInBounds_toArray, List.set_cons_zero, List.set_cons_succ]
                  refine wpAnyH_take (i := 9) (oi := ⟨some 97, _, _, _, _, _⟩) (v := .agg #[.slice (some ⟨g, 0, none⟩) ds.length vc, .int .i64 (cs.length : Int), .int .i64 (m : Int)]) rfl (by kernel_rfl) (by kernel_rfl) (by kernel_rfl) (fun _ _ _ h => h) (Or.inl ⟨by rfl, fun W _ => by go_simp⟩) hS ?_
                  try simp only [Act.put, List.setIfInBounds_toArray, List.set_cons_zero, List.set_cons_succ]
                  refine AnyH.only (i := 10) (o := ⟨none, _, _, _, _, _⟩) (by kernel_rfl) rfl (by rfl) (fun K hK => ?_)
                  refine wp_store_blk 60 (.tmp 4) (.tmp 97) rfl (w.heap.size + 1 + 1) (imgCells (.slice (some ⟨g, 0, none⟩) ds.length vc) cs.length m) rfl rfl HLI.out.drew.r Tryd.sizeImage rfl (by intro x hx; simp only [imgCells, List.mem_cons, List.not_mem_nil, or_false] at hx; rcases hx with rfl | rfl | rfl <;> rfl) ?_
                  have hS1 := hS.rowOther (w.heap.size + 1 + 1) (imgCells (.slice (some ⟨g, 0, none⟩) ds.length vc) cs.length m).toArray (by omega)
                  clear hS
                  have hS := hS1
                  clear hS1
                  refine hK.out _ _ hS ?_
                  clear hK K
                  try simp only [Act.put]
                  refine wpAnyH_take (i := 11) (oi := ⟨some 5, _, _, _, _, _⟩) (v := .int .i64 0) rfl (by kernel_rfl) (by kernel_rfl) (by kernel_rfl) (fun _ _ _ h => h) (Or.inl ⟨by rfl, fun W _ => by go_simp⟩) hS ?_
                  try simp only [Act.put, List.setIfInBounds_toArray, List.set_cons_zero, List.set_cons_succ]
                  refine wpAnyH_take (i := 12) (oi := ⟨some 6, _, _, _, _, _⟩) (v := .bool false) rfl (by kernel_rfl) (by kernel_rfl) (by kernel_rfl) (fun _ _ _ h => h) (Or.inl ⟨by rfl, fun W _ => by go_simp⟩) hS ?_
                  try simp only [Act.put, List.setIfInBounds_toArray, List.set_cons_zero, List.set_cons_succ]
                  refine wpAnyH_take (i := 13) (oi := ⟨some 7, _, _, _, _, _⟩) (v := .int .i64 0) rfl (by kernel_rfl) (by kernel_rfl) (by kernel_rfl) (fun _ _ _ h => h) (Or.inl ⟨by rfl, fun W _ => by go_simp⟩) hS ?_
                  try simp only [Act.put, List.setIfInBounds_toArray, List.set_cons_zero, List.set_cons_succ]
                  refine wpAnyH_done (by kernel_rfl) ?_ _
                  clear hS
                  go_wp2_with fail
                  refine ret_blk4 (cs := imgCells (.slice (some ⟨g, 0, none⟩) ds.length vc) cs.length m) Tryd.results26 rfl (HLI.out.drew.r.rowSame _) Tryd.underlying60 rfl Tryd.sizeImage rfl rfl rfl rfl ?_
                  rw [HX.out]
                  exact ⟨_, rfl, HLI.out.drew.s.c.keep fun b hb hl => ⟨by have := hb.1; omega, setRow_other _ _ _ _ (by have := hb.1; omega)⟩, Below.row HLI.out.drew.k (by omega) _⟩

end Go.Proofs.YtnmpfpnldcgbaaaDoor
