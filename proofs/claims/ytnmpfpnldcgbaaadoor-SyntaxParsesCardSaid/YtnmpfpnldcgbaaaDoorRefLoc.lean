/- The contract of lychgateref02.args. The document's parser with a local node whose kids grow: what is known while such a function runs (RLoc). -/
import Derived.Test.YtnmpfpnldcgbaaaDoorRefSort
namespace Go.Proofs.YtnmpfpnldcgbaaaDoor
section
open Go.RowKit

theorem key40 : keySign (bs [40]) = true := by kernel_rfl
theorem key41 : keySign (bs [41]) = true := by kernel_rfl
theorem key44 : keySign (bs [44]) = true := by kernel_rfl
theorem RSt.grown {E : Env} {w w' : World} {l : List Tok} {d : Nat} {f : Int} {q : Nat} {row : Option Nat} (h : RSt E w l d f q) (hg : w.grownBy w' row) (hr : ∀ k, row = some k → E.pb ≠ k ∧ E.tb ≠ k) : RSt E w' l d f q :=
  h.same hg.size (hg.block _ h.plt (fun e => (hr _ e.symm).1 rfl)) (hg.block _ h.tlt (fun e => (hr _ e.symm).2 rfl))
theorem Kp.grow {pb : Nat} {a w w' : World} {row : Option Nat} (h : Kp pb a w) (hg : w.grownBy w' row) (hr : ∀ k, row = some k → a.heap.size ≤ k) : Kp pb a w' :=
  ⟨hg.os.trans h.os, hg.tape.trans h.tape, hg.output.trans h.output, Nat.le_trans h.size hg.size, fun k hk hn => (hg.block k (Nat.lt_of_lt_of_le hk h.size) (fun e => by have := hr k e.symm; omega)).trans (h.block k hk hn)⟩
theorem RSt.putRow {E : Env} {w : World} {l : List Tok} {d : Nat} {f : Int} {q : Nat} (h : RSt E w l d f q) (g : Nat) (cs : Array Value) (h1 : E.pb ≠ g) (h2 : E.tb ≠ g) : RSt E (w.setRow g cs) l d f q :=
  h.same (by simp [World.setRow]) (setRow_other _ _ _ _ h1) (setRow_other _ _ _ _ h2)

theorem size_putRow (w : World) (g : Nat) (cs : Array Value) : (w.setRow g cs).heap.size = w.heap.size := by simp [World.setRow]
theorem lit1_row (w : World) (g : Nat) (cs : Array Value) (e : TypeId) (t : T) (v : Value) : ∀ j u, (rowCells [t] [v])[j]? = some u → ((w.setRow g cs).alloc (.cells (nodeCells t v).toArray e)).cell? ((⟨w.heap.size, 0, none⟩ : Addr).add j) = some u := by
  have h := lit1_at (w.setRow g cs) e t v
  rw [size_putRow] at h
  exact h
theorem rlistF_no {item : List Tok → R T} {n : Nat} {l : List Tok} (hn : 0 < n) (h : isT (hdT l) (bs [44]) = false) : listF item n l = .ok ([], l) := by
  obtain ⟨m, rfl⟩ : ∃ m, n = m + 1 := ⟨n - 1, by omega⟩
  unfold listF
  rw [h]
  rfl
theorem rlistF_yes {item : List Tok → R T} {n : Nat} {l : List Tok} (h : isT (hdT l) (bs [44]) = true) : listF item (n + 1) l = bd (item l.tail) fun a l => bd (listF item n l) fun xs l => .ok (a :: xs, l) := by
  rw [listF, h]
  rfl

/- What a call comes to that hands back a list of nodes. -/
def RList (E : Env) (w : World) (d : Nat) (l : List Tok) (f : Int) (q : Nat) (r : R (List T)) (e : Ending) (w' : World) : Prop :=
  ∃ xs v lf f' q', e = .returned v ∧ KAt 31 w' xs (fun b => w.heap.size ≤ b) v ∧ xs.length ≤ 40000 ∧ RSt E w' lf d f' q' ∧ Kp E.pb w w' ∧ Sees l f q r xs lf f' q'

structure ArgSt (E : Env) (w : World) (d : Nat) (l2 : List Tok) (f2 : Int) (q2 : Nat) (item : List Tok → R T) (ga g : Nat) (v : Value) (wr : World) (xs : List T) (lc : List Tok) (fc : Int) (qc n : Nat) : Prop where
  st : RSt E wr lc d fc qc
  kp : Kp E.pb w wr
  kids : KAt 31 wr xs (fun b => w.heap.size ≤ b ∧ b ≠ ga) v
  blk : ∃ old, Blk wr ga old 31 ∧ old.length = 5
  cnt : xs.length + g ≤ 16400
  good : (fc == 0) = true → lc.length + 1 ≤ g ∧ lc.length ≤ n
  cont : ∀ ys lf f' q', Sees lc fc qc (listF item n lc) ys lf f' q' → Sees l2 f2 q2 (listP item l2) (xs ++ ys) lf f' q'
def ArgRel (E : Env) (w : World) (d : Nat) (l2 : List Tok) (f2 : Int) (q2 : Nat) (item : List Tok → R T) (ga : Nat) (g : Nat) (v : Value) (wr : World) : Prop := ∃ xs lc fc qc n, ArgSt E w d l2 f2 q2 item ga g v wr xs lc fc qc n

set_option maxRecDepth 100000 in
set_option maxHeartbeats 4000000 in
theorem rargs_tot {E : Env} {w : World} {l : List Tok} {d : Nat} {f : Int} {q : Nat} (h : RSt E w l d f q) :
    Calls Tryd.prog 90 #[.pointer (some ⟨E.pb, 0, none⟩)] w (RList E w d l f q (parensP termP l)) := by
  have H := Lib.hid h
  have hplt := h.plt
  have htlt := h.tlt
  have hlen := h.len
  have hgap := h.ne
  clear h
  obtain ⟨i0, z0, I⟩ := Tryd.refInfo
  have HPE : Hid (parensP termP l = bd (expectP [bs [40]] l) fun _ l => bif isT (hdT l) (bs [41]) then .ok ([], l.tail) else bd (listP termP l) fun xs l => bd (expectP [bs [41]] l) fun _ l => .ok (xs, l)) := Lib.hid rfl
  go_enter Tryd.func90, Tryd.ntmps90
  go_wp2_with fail
  refine (rmust_tot H.out (bs [40]) key40 (by decide)).mono ?_
  rintro e w1 ⟨l1, f1, q1, rfl, hs1, hp1, tk1, hsee1⟩
  have HK1 := Lib.hid ((Kp.refl E.pb w).trans hp1)
  have H1 := Lib.hid hs1
  have HS1 := Lib.hid hsee1
  clear hs1 hp1 hsee1
  go_wp2_with fail
  refine (rhas_tot H1.out (bs [41]) key41 (by decide)).mono ?_
  rintro e w2 ⟨b2, l2, rfl, hs2, hp2, hc2⟩
  have HK2 := Lib.hid (HK1.out.trans hp2)
  have H2 := Lib.hid hs2
  have HC2 := Lib.hid hc2
  clear hs2 hp2 hc2
  rcases HC2.out with ⟨rfl, hf2, hi2, rfl⟩ | ⟨rfl, hx2, rfl⟩
  · go_wp2
    go_ret
    exact ⟨[], _, _, _, _, rfl, KAt.nil _ _ _, by simp, H2.out, HK2.out, by rw [HPE.out]; exact HS1.out.andThen (Sees.yes hi2 hf2 (Sees.done _ _ _ _))⟩
  · have c3 : w2.cell? ⟨E.pb, 3, none⟩ = some (.int .i64 f1) := H2.out.blk.cell 3
    have hw2 : w.heap.size ≤ w2.heap.size := HK2.out.size
    cases hf1 : (f1 == 0) with
    | false =>
      have hf1n : (f1 != 0) = true := by simp only [bne, hf1]; rfl
      go_wp2
      go_ret
      exact ⟨[], _, _, _, _, rfl, KAt.nil _ _ _, by simp, H2.out, HK2.out, by rw [HPE.out]; exact HS1.out.andThen (.inr ⟨hf1, rfl, rfl, rfl⟩)⟩
    | true =>
      have hf1n : (f1 != 0) = false := by simp only [bne, hf1]; rfl
      go_wp2_with fail
      refine (rterm_tot H2.out).mono ?_
      rintro e w3 ⟨t3, v3, l3, f3, q3, rfl, hk3, hn3, hs3, hp3, hsee3⟩
      have HV3 := Lib.hid hk3
      have H3 := Lib.hid hs3
      have HK3 := Lib.hid (HK2.out.trans hp3)
      have HS3 := Lib.hid hsee3
      have hw3 : w2.heap.size ≤ w3.heap.size := hp3.size
      have hl3 := hs3.le
      clear hk3 hs3 hp3 hsee3 c3
      unfold NodeV
      go_wp2_with (first | ((with_reducible refine at_st 31 (.tmp 4) ?_); refine wpList_store_new rfl 31 (.tmp 4) (.tmp 20) rfl (nodeCells t3 v3) (old := zeroNodeCells) rfl rfl Tryd.sizeRef rfl (nodeCells_one _ _ HV3.out.one) ?_) | ((with_reducible refine at_ld 31 (.tmp 4) ?_); refine wpList_load_node rfl 31 (.tmp 4) rfl w3.heap.size t3 v3 rfl (Blk.new w3 _ _) Tryd.underlying31 rfl Tryd.sizeRef ?_))
      have hk1 := KAt.lit1 (e := 31) (w := w3.alloc (.cells (nodeCells t3 v3).toArray 31)) (t := t3) (S := fun b => w.heap.size ≤ b ∧ b ≠ w3.heap.size) (TAt.of_kids ((HV3.out.mono (fun b hb hl => by omega)).alloc _)) (by simp only [World.size_alloc]; omega)
      rw [show (w3.alloc (.cells (nodeCells t3 v3).toArray 31)).heap.size = w3.heap.size + 1 by simp] at hk1
      have HX0 := Lib.hid hk1
      clear hk1
      go_loopg [5] (l3.length + 1) (fun g v wr => ArgRel E w d l2 f1 q1 termP w3.heap.size g v wr)
      case atStart =>
        exact ⟨[t3], l3, f3, q3, l3.length, (H3.out.alloc _).alloc _, (HK3.out.alloc _).alloc _, HX0.out, ⟨nodeCells t3 v3, (Blk.new w3 _ _).alloc _, rfl⟩, by simp; omega, fun _ => ⟨Nat.le_refl _, Nat.le_refl _⟩, fun ys lf f' q' hy => HS3.out.andThen (hy.andThen (Sees.done _ _ _ _))⟩
      case round =>
        obtain ⟨xs, lc, fc, qc, n, hst⟩ := hrel
        have HA := Lib.hid hst
        obtain ⟨old, hblk, hol⟩ := hst.blk
        have HBA := Lib.hid hblk
        have hz := hblk.lt
        have hwz := hst.kp.size
        clear hst hblk HX0
        go_wp2_with fail
        refine (rhas_tot HA.out.st (bs [44]) key44 (by decide)).mono ?_
        rintro e w5 ⟨b5, l5, rfl, hs5, hp5, hc5⟩
        have H5 := Lib.hid hs5
        have HP5 := Lib.hid hp5
        have HB5 := Lib.hid (HBA.out.kp hp5 (by omega))
        have HX5 := Lib.hid (HA.out.kids.kp hp5 (fun b hb => by omega))
        have HK5 := Lib.hid (HA.out.kp.trans hp5)
        have hz5 := HB5.out.lt
        have hp5z := hp5.size
        rcases hc5 with ⟨rfl, hf5, hi5, rfl⟩ | ⟨rfl, hx5, rfl⟩
        · obtain ⟨hg1, hg2⟩ := HA.out.good hf5
          have hpos := HA.out.st.head.1
          obtain ⟨m, rfl⟩ : ∃ m, n = m + 1 := ⟨n - 1, by omega⟩
          have hcnt := HA.out.cnt
          have hbound : lc.tail.length + 1 ≤ lc.length := by rw [List.length_tail]; omega
          clear hs5 hp5
          go_wp2_with fail
          refine (rterm_tot H5.out).mono ?_
          rintro e w6 ⟨t6, v6, l6, f6, q6, rfl, hk6, hn6, hs6, hp6, hsee6⟩
          have HV6 := Lib.hid hk6
          have H6 := Lib.hid hs6
          have HK6 := Lib.hid (HK5.out.trans hp6)
          have HB6 := Lib.hid (HB5.out.kp hp6 (by omega))
          have HX6 := Lib.hid (HX5.out.kp hp6 (fun b hb => by omega))
          have HS6 := Lib.hid hsee6
          have hz6 := HB6.out.lt
          have hp6z := hp6.size
          have hob : ∀ g, u5.ownBlock = some g → g < w5.heap.size ∧ w.heap.size ≤ g ∧ g ≠ w3.heap.size := fun g hg => by
            obtain ⟨_, ho, hS, _⟩ := HX5.out
            have h2 := hS g hg
            exact ⟨(ho.lt g hg).2, h2.1, h2.2⟩
          have HOB := Lib.hid hob
          clear hk6 hs6 hp6 hsee6 hob
          unfold NodeV
          go_wp2_with (first
            | ((with_reducible refine at_st 31 (.tmp 4) ?_); refine wpList_store_blk rfl 31 (.tmp 4) (.tmp 28) rfl w3.heap.size (nodeCells t6 v6) rfl rfl HB6.out Tryd.sizeRef (by rw [hol]; rfl) (nodeCells_one _ _ HV6.out.one) ?_)
            | ((with_reducible refine at_ld 31 (.tmp 4) ?_); refine wpList_load_node rfl 31 (.tmp 4) rfl w3.heap.size t6 v6 rfl (HB6.out.rowSame _) Tryd.underlying31 rfl Tryd.sizeRef ?_)
            | (at_builtin; refine wpList_append_trees rfl (.tmp 29) (.tmp 31) rfl I (ks := xs) (ts := [t6]) (S := fun b => w.heap.size ≤ b ∧ b ≠ w3.heap.size) rfl ((HX6.out.setRow _ _ (fun b hb => by omega)).alloc _) (us := [v6]) (TsAt.single ?c1) ?c2 rfl rfl (by simp) (lit1_row _ _ _ _ t6 v6) ?c3 ?_))
          case c1 =>
            refine TAt.of_kids (((HV6.out.mono (S' := fun b => (w.heap.size ≤ b ∧ b ≠ w3.heap.size) ∧ u5.ownBlock ≠ some b) (fun b hb hl => ⟨⟨by omega, by omega⟩, fun hbk => ?_⟩)).setRow _ _ (fun b hb => hb.1.2)).alloc _)
            have := (HOB.out b hbk).1
            omega
          case c2 => simp only [World.size_alloc, size_putRow]; omega
          case c3 => simp; omega
          intro v7 w7 hK7 hg7 hb7
          obtain ⟨sa, sn, sc, rfl⟩ := hK7.slice
          have H7 := Lib.hid (((H6.out.putRow w3.heap.size (nodeCells t6 v6).toArray (by omega) (by omega)).alloc _).grown hg7 (fun k hk => by have := HOB.out k hk; omega))
          have HK7 := Lib.hid (((HK6.out.setRow (g := w3.heap.size) (by omega) (nodeCells t6 v6).toArray).alloc _).grow hg7 (fun k hk => (HOB.out k hk).2.1))
          have HB7 := Lib.hid (((HB6.out.rowSame (nodeCells t6 v6)).alloc _).grown hg7 (fun e => (HOB.out _ e.symm).2.2 rfl))
          have HX7 := Lib.hid hK7
          clear hK7 hg7 hb7
          go_wp2
          go_roundg (gk - 1)
          case measure => omega
          case rel =>
            refine ⟨xs ++ [t6], l6, f6, q6, m, H7.out, HK7.out, HX7.out, ⟨_, HB7.out, rfl⟩, by simp; omega, fun hf6 => ?_, fun ys lf f' q' hy => ?_⟩
            · have := HS6.out.len (beq_iff_eq.1 hf6)
              omega
            · have := HA.out.cont (t6 :: ys) lf f' q' (Sees.turn (fun _ => rlistF_yes hi5) (Sees.behind hf5 (HS6.out.andThen (hy.andThen (Sees.done _ _ _ _)))))
              rw [List.append_assoc]
              exact this
        · have HEND : Hid (Sees l2 f1 q1 (listP termP l2) xs l5 fc qc) := Lib.hid (by
            have := HA.out.cont [] l5 fc qc (Sees.turn (fun hf => rlistF_no (by have := (HA.out.good hf).2; have := HA.out.st.head.1; omega) (no_is hx5 hf)) (Sees.done _ _ _ _))
            rwa [List.append_nil] at this)
          have hcnt := HA.out.cnt
          clear hs5 hp5
          go_wp2_with fail
          refine (rmust_tot H5.out (bs [41]) key41 (by decide)).mono ?_
          rintro e w6 ⟨l6, f6, q6, rfl, hs6, hp6, tk6, hsee6⟩
          have H6 := Lib.hid hs6
          have HK6 := Lib.hid (HK5.out.trans hp6)
          have HX6 := Lib.hid (HX5.out.kp hp6 (fun b hb => by omega))
          have HS6 := Lib.hid hsee6
          clear hs6 hp6 hsee6
          go_wp2
          go_ret
          exact ⟨xs, _, _, _, _, rfl, HX6.out.mono (fun b hb _ => hb.1), by omega, H6.out, HK6.out, by rw [HPE.out]; exact HS1.out.andThen (Sees.no hx2 (HEND.out.andThen (HS6.out.andThen (Sees.done _ _ _ _))))⟩
end

section
open Go.RowKit

structure RLoc (E : Env) (w W : World) (d : Nat) (l : List Tok) (f : Int) (q : Nat) (g : Nat) (t : T) (v : Value) : Prop where
  st : RSt E W l d f q
  kp : Kp E.pb w W
  res : ∃ old, Blk W w.heap.size old 31 ∧ old.length = 5
  blk : Blk W g (nodeCells t v) 31
  kids : KAt 31 W t.kids (fun b => w.heap.size < b ∧ b ≠ g) v
  gt : w.heap.size < g
  plt : E.pb < w.heap.size
  tlt : E.tb < w.heap.size

section
variable {E : Env} {w W W' : World} {d : Nat} {l l' : List Tok} {f f' : Int} {q q' g : Nat} {t : T} {v : Value}
theorem RLoc.lt (h : RLoc E w W d l f q g t v) : g < W.heap.size := h.blk.lt
theorem RLoc.call (h : RLoc E w W d l f q g t v) (hp : Kp E.pb W W') (hs : RSt E W' l' d f' q') : RLoc E w W' d l' f' q' g t v := by
  have h1 := h.gt
  have h2 := h.plt
  obtain ⟨old, ho, hl⟩ := h.res
  exact ⟨hs, h.kp.trans hp, ⟨old, ho.kp hp (by omega), hl⟩, h.blk.kp hp (by omega), h.kids.kp hp (fun b hb => by omega), h.gt, h.plt, h.tlt⟩
theorem RLoc.alloc (h : RLoc E w W d l f q g t v) (o : Obj) : RLoc E w (W.alloc o) d l f q g t v := by
  obtain ⟨old, ho, hl⟩ := h.res
  exact ⟨h.st.alloc o, h.kp.alloc o, ⟨old, ho.alloc o, hl⟩, h.blk.alloc o, h.kids.alloc o, h.gt, h.plt, h.tlt⟩
/- A cell of the node itself is written: not its kids. -/
theorem RLoc.set (h : RLoc E w W d l f q g t v) (i : Nat) (x : Value) (t' : T) (ht : (nodeCells t v).set i x = nodeCells t' v) (hk : t'.kids = t.kids) : RLoc E w (W.setCell ⟨g, i, none⟩ x) d l f q g t' v := by
  have h1 := h.gt
  have h2 := h.plt
  have h3 := h.tlt
  obtain ⟨old, ho, hl⟩ := h.res
  refine ⟨h.st.far _ _ (by show _ ≠ g; omega) (by show _ ≠ g; omega), h.kp.setNew (p := ⟨g, i, none⟩) (by show _ ≤ g; omega) _, ⟨old, ho.setOther _ _ (by show _ ≠ g; omega), hl⟩, ?_, ?_, h.gt, h.plt, h.tlt⟩
  · rw [← ht]
    exact h.blk.setSame i x
  · rw [hk]
    exact h.kids.setCell _ _ (fun b hb => hb.2)
/- The kids are put in place of what was there. -/
theorem RLoc.setKids (h : RLoc E w W d l f q g t v) (ks : List T) (x : Value) (hk : KAt 31 W ks (fun b => w.heap.size < b ∧ b ≠ g) x) : RLoc E w (W.setCell ⟨g, 4, none⟩ x) d l f q g (t.setKids ks) x := by
  have h1 := h.gt
  have h2 := h.plt
  have h3 := h.tlt
  obtain ⟨old, ho, hl⟩ := h.res
  exact ⟨h.st.far _ _ (by show _ ≠ g; omega) (by show _ ≠ g; omega), h.kp.setNew (p := ⟨g, 4, none⟩) (by show _ ≤ g; omega) _, ⟨old, ho.setOther _ _ (by show _ ≠ g; omega), hl⟩, h.blk.setSame 4 x, hk.setCell _ _ (fun b hb => hb.2), h.gt, h.plt, h.tlt⟩
theorem RLoc.own (h : RLoc E w W d l f q g t v) (k : Nat) (hk : v.ownBlock = some k) : k < W.heap.size ∧ w.heap.size < k ∧ k ≠ g := by
  obtain ⟨_, ho, hS, _⟩ := h.kids
  have h2 := hS k hk
  exact ⟨(ho.lt k hk).2, h2.1, h2.2⟩
/- What a call has made behind it is no part of it. -/
theorem RLoc.fresh (h : RLoc E w W d l f q g t v) {ks : List T} {x : Value} (hk : KAt 31 W' ks (fun b => W.heap.size ≤ b) x) : KAt 31 W' ks (fun b => (w.heap.size < b ∧ b ≠ g) ∧ v.ownBlock ≠ some b) x :=
  hk.mono fun b hb _ => by
    have h1 := h.lt
    have h2 := h.gt
    refine ⟨⟨by omega, by omega⟩, fun hv => ?_⟩
    have := (h.own b hv).1
    omega
theorem RLoc.fresh1 (h : RLoc E w W d l f q g t v) {ks : List T} {x : Value} (hk : KAt 31 W' ks (fun b => W.heap.size ≤ b) x) : KAt 31 W' ks (fun b => w.heap.size < b ∧ b ≠ g) x :=
  (h.fresh hk).mono fun _ hb _ => hb.1
/- 'n.Kids = append(n.Kids, ..)'. -/
theorem RLoc.after (h : RLoc E w W d l f q g t v) {ks : List T} {v' : Value} (hK : KAt 31 W' ks (fun b => w.heap.size < b ∧ b ≠ g) v') (hg : W.grownBy W' v.ownBlock) :
    RLoc E w (W'.setCell ⟨g, 4, none⟩ v') d l f q g (t.setKids ks) v' ∧ W'.cell? ⟨g, 4, none⟩ = some v ∧ W'.frozen? ⟨g, 4, none⟩ = false ∧ g < W'.heap.size := by
  have h1 := h.gt
  have h2 := h.plt
  have h3 := h.tlt
  obtain ⟨old, ho, hl⟩ := h.res
  have hb : Blk W' g (nodeCells t v) 31 := h.blk.grown hg (fun e => (h.own g e.symm).2.2 rfl)
  exact ⟨⟨(h.st.grown hg (fun k hk => by have := (h.own k hk).2.1; omega)).far _ _ (by show _ ≠ g; omega) (by show _ ≠ g; omega), (h.kp.grow hg (fun k hk => by have := (h.own k hk).2.1; omega)).setNew (p := ⟨g, 4, none⟩) (by show _ ≤ g; omega) _, ⟨old, (ho.grown hg (fun e => by have := (h.own _ e.symm).2.1; omega)).setOther _ _ (by show _ ≠ g; omega), hl⟩, hb.setSame 4 v', hK.setCell _ _ (fun b hb => hb.2), h.gt, h.plt, h.tlt⟩, hb.cell 4, hb.frozen 4, hb.lt⟩
/- The end: the node is copied into the result. -/
theorem RLoc.tot (h : RLoc E w W d l' f' q' g t v) (hn : t.kids.length ≤ 40000) {r : R T} (hs : Sees l f q r t l' f' q') : RTot E w d l f q r (.returned (.agg (nodeCells t v).toArray)) (W.setRow w.heap.size (nodeCells t v).toArray) := by
  have h1 := h.gt
  have h2 := h.plt
  have h3 := h.tlt
  exact ⟨t, v, l', f', q', rfl, (h.kids.setRow _ _ (fun b hb => by omega)).mono (fun b hb _ => by omega), hn, h.st.putRow _ _ (by omega) (by omega), h.kp.setRow (Nat.le_refl _) _, hs⟩
end
end

end Go.Proofs.YtnmpfpnldcgbaaaDoor
