/- The contracts of the layout's ifNode and while, if block does as it is asked. -/
import Derived.Test.YtnmpfpnldcgbaaaDoorP28
import Derived.Test.YtnmpfpnldcgbaaaDoorP29
import Derived.Test.YtnmpfpnldcgbaaaDoorP30
namespace Go.Proofs.YtnmpfpnldcgbaaaDoor
open Go.RowKit

def LPost (pb : Nat) (w : World) (v : Value) (is : List Ins) (e : Ending) (w' : World) : Prop := e = .returned (.tuple #[]) ∧ ∃ V, Lay pb w v is w' V

/- What block is asked to do: the statements of a block are laid out behind those that are there. -/
def BlockOK (n : Nat) : Prop := ∀ (w : World) (pb : Nat) (v : Value) (is : List Ins) (t : T) (kv : Value), Blk w pb [v] 93 → InsAt w is (fun b => pb < b) v → KAt 25 w t.kids (fun b => b < pb) kv →
  KindsAre isStmtK t.kids → wholes t.kids → sizes t.kids ≤ n → is.length + 2 * sizes t.kids ≤ 80000 →
  Calls Tryd.prog 40 #[.pointer (some ⟨pb, 0, none⟩), NodeV t kv] w (LPost pb w v (is ++ blockI n is.length t.kids))

theorem count_le : ∀ t : T, t.count ≤ 2 * t.size
  | .mk k s n p ks => by
    rw [count_eq, size_mk]
    have h : counts ks ≤ 2 * sizes ks := counts_le ks
    have h2 : ownCount k ≤ 2 := by
      unfold ownCount
      cases (k == 15 || k == 16) with
      | true => exact Nat.le_refl _
      | false =>
        cases (decide (10 ≤ k) && decide (k ≤ 20)) with
        | true => exact Nat.le_succ _
        | false => exact Nat.zero_le _
    show ownCount k + counts ks ≤ _
    omega
where counts_le : ∀ ks : List T, counts ks ≤ 2 * sizes ks
  | [] => by rw [counts_nil]; omega
  | t :: ts => by
    rw [counts_cons, sizes_cons]
    have := count_le t
    have := counts_le ts
    omega

theorem Lay.told {pb : Nat} {w W : World} {v V : Value} {is : List Ins} {k : Nat} {i : Ins} (h : Lay pb w v is W V) (hk : is[k]? = some i) (to : Nat) :
    ∃ g n c, n = is.length ∧ V = .slice (some ⟨g, 0, none⟩) n c ∧ (W.cell? ⟨g, k * 11 + 9, none⟩ = some (.int .i64 i.to) ∧ W.frozen? ⟨g, k * 11 + 9, none⟩ = false) ∧ (pb < g ∧ g < W.heap.size) ∧ Lay pb w v (is.set k (i.setTo to)) (W.setCell ⟨g, k * 11 + 9, none⟩ (.int .i64 to)) V := by
  have h0 := h.ins
  obtain ⟨vs, ho, _⟩ := h0
  rcases ho.2 with ⟨_, h1⟩ | ⟨g, cap, cur, hv, _⟩
  · have : k < is.length := (List.getElem?_eq_some_iff.1 hk).1
    omega
  · subst hv
    obtain ⟨g', e, h2, h3, h4⟩ := h.setTo hk to
    cases e
    exact ⟨g, _, _, rfl, rfl, h2, h3, h4⟩
theorem list_at {α : Type} (A : List α) (j : α) (C : List α) {k : Nat} (hk : k = A.length) : (A ++ [j] ++ C)[k]? = some j := by subst hk; simp
theorem list_put {α : Type} (A : List α) (j j' : α) (C : List α) {k : Nat} (hk : k = A.length) : (A ++ [j] ++ C).set k j' = A ++ [j'] ++ C := by subst hk; simp
theorem calls_at {P : Program} {f : FuncId} {args : Array Value} {w : World} {R : Ending → World → Prop} (w0 : World) (hw : w = w0) (h : Calls P f args w0 R) : Calls P f args w R := hw ▸ h
theorem argsOf {pb : Nat} {W : World} {V u : Value} {ts : List Tm} {W0 : World} (hv : ∀ k, V.ownBlock = some k → k < W0.heap.size) (hp : pb < W0.heap.size) (hu : ArgsAt W ts (fun b => W0.heap.size ≤ b) u) : ArgsAt W ts (fun b => pb < b ∧ V.ownBlock ≠ some b) u :=
  hu.mono fun b hb _ => ⟨by omega, fun e => by have := hv b e; omega⟩

set_option maxRecDepth 100000 in
set_option maxHeartbeats 2000000 in
theorem while_any {n : Nat} (ih : BlockOK n) {w : World} {pb : Nat} {v : Value} {is : List Ins} {tx : ByteArray} {nm : Int} {p : Nat} {ks : List T} {a b c : T} {kv : Value} (hb : Blk w pb [v] 93) (hi : InsAt w is (fun b => pb < b) v) (hk : KAt 25 w ks (fun b => b < pb) kv)
    (he : ks = [a, b, c]) (hc : KindsAre isStmtK c.kids ∧ wholes c.kids) (hn : sizes c.kids ≤ n) (hl : is.length + 2 * (sizes c.kids) + 4 ≤ 80000) :
    Calls Tryd.prog 80 #[.pointer (some ⟨pb, 0, none⟩), NodeV (.mk 16 tx nm p ks) kv] w (LPost pb w v (is ++ stmtI (blockI n) is.length (.mk 16 tx nm p ks))) := by
  have h2 : kidP (.mk 16 tx nm p ks) 2 = c := by unfold kidP; rw [he]; rfl
  have hst := stmtI_while (blockI n) is.length (t := .mk 16 tx nm p ks) rfl he
  have hlo := hb.lt
  have hvlt : ∀ k, v.ownBlock = some k → k < w.heap.size := fun k hk => (hi.rowLt hk).2
  have hB := blockI_length n c.kids (by omega) hc.1 hc.2
  have hC := count_le.counts_le c.kids
  obtain ⟨bi, hbi⟩ : ∃ bi, bi = branchI (.mk 16 tx nm p ks) 0 := ⟨_, rfl⟩
  obtain ⟨w0, hw0, HL0, HN0, HK0, HB0, HZ0⟩ : ∃ w0 : World, w.alloc (.cells (nodeCells (.mk 16 tx nm p ks) kv).toArray 25) = w0 ∧ Hid (Lay pb w0 v is w0 v) ∧ Hid (Blk w0 w.heap.size (nodeCells (.mk 16 tx nm p ks) kv) 25) ∧ Hid (KAt 25 w0 (T.mk 16 tx nm p ks).kids (fun b => b < pb) kv) ∧ Hid (Below w.heap.size w w0) ∧ Hid (w.heap.size < w0.heap.size) :=
    ⟨_, rfl, Lib.hid (Lay.start (hb.alloc _) (hi.alloc _)), Lib.hid (Blk.new w _ _), Lib.hid (hk.alloc _), Lib.hid ((Below.refl _ _).alloc (Nat.le_refl _) _), Lib.hid (by simp)⟩
  have HV := Lib.hid hvlt
  have HLO := Lib.hid hlo
  have HST := Lib.hid hst
  have H2 := Lib.hid h2
  have HBI := Lib.hid hbi
  have HLEN := Lib.hid hB
  have HCNT := Lib.hid hC
  have HC := Lib.hid hc
  have HN := Lib.hid hn
  have HLL := Lib.hid hl
  have HPN := Lib.hid (show w.heap.size ≠ pb by omega)
  have HVN := Lib.hid (show v.ownBlock ≠ some w.heap.size from fun e => by have := hvlt _ e; omega)
  obtain ⟨ka, kn, kc, rfl⟩ := hk.slice
  clear he hst h2 hB hC hc hn hl hb hi hk hvlt hlo hbi
  unfold NodeV
  simp only [kind_mk, text_mk, num_mk, place_mk]
  go_enter Tryd.func80, Tryd.ntmps80
  go_wp2_with fail
  refine calls_at w0 hw0 ?_
  clear hw0
  refine (branch_any (t := .mk 16 tx nm p ks) HK0.out).mono ?_
  rintro e w1 ⟨u, rfl, hu, hb1⟩
  rw [← HBI.out] at hu ⊢
  obtain ⟨ua, un, uc, rfl⟩ := hu.slice
  have HL1 := Lib.hid (HL0.out.below hb1)
  have HU1 := Lib.hid (argsOf (W0 := w0) (fun k e => Nat.lt_trans (HV.out k e) HZ0.out) (Nat.lt_trans HLO.out HZ0.out) hu)
  clear hu hb1
  unfold InsV
  go_wp2_with fail
  refine (put_any HL1.out.blk HL1.out.ins HU1.out (by have := HLL.out; omega)).mono ?_
  rintro e w2 ⟨rfl, V2, hl2⟩
  have HL2 := Lib.hid (HL1.out.trans hl2)
  have HN2 := Lib.hid (HL2.out.stays HN0.out HPN.out HVN.out)
  have HK2 := Lib.hid (HL2.out.kat HK0.out)
  clear hl2 HU1 HL1
  go_wp2_with (first
    | ((with_reducible refine at_ld 25 (.tmp 3) ?_); refine wpList_load_blk rfl 25 (.tmp 3) rfl w.heap.size (nodeCells (.mk 16 tx nm p ks) (.slice ka kn kc)) rfl HN2.out Tryd.underlying25 rfl Tryd.sizeNode ?_))
  refine (kidOf_any (t := .mk 16 tx nm p ks) HK2.out 2).mono ?_
  rintro e w3 ⟨u3, rfl, hu3, hb3⟩
  rw [H2.out] at hu3 ⊢
  have HL3 := Lib.hid (HL2.out.below hb3)
  have HK3 := Lib.hid hu3
  clear hu3 hb3 HK2 HL2 HN2
  go_wp2_with fail
  refine (ih _ _ _ _ _ _ HL3.out.blk HL3.out.ins HK3.out HC.out.1 HC.out.2 (by have := HN.out; omega) (by have := HLL.out; simp; omega)).mono ?_
  rintro e w4 ⟨rfl, V4, hl4⟩
  have HL4 := Lib.hid (HL3.out.trans hl4)
  have HN4 := Lib.hid (HL4.out.stays HN0.out HPN.out HVN.out)
  have hn4 := HN4.out.cell 3
  simp only [nodeCells, List.getElem?_cons_zero, List.getElem?_cons_succ, place_mk] at hn4
  have hlt4 := HN4.out.lt
  clear hl4 HK3 HL3
  have hlb := HLEN.out (is.length + 1)
  have hst := HST.out
  have e1 : blockI n (is ++ [bi]).length c.kids = blockI n (is.length + 1) c.kids := by rw [show (is ++ [bi]).length = is.length + 1 by simp]
  rw [e1] at HL4
  generalize blockI n (is.length + 1) c.kids = B at HL4 hlb hst
  have HLB := Lib.hid (show B.length ≤ 2 * sizes c.kids by have := HCNT.out; omega)
  have HST2 := Lib.hid hst
  clear e1 hst hlb HST
  go_wp2_with fail
  refine (put_any (j := ⟨11, p, e0, e0, tm0, tm0, [], is.length, false⟩) HL4.out.blk HL4.out.ins (ArgsAt.nil _ _) (by have := HLL.out; have := HLB.out; simp; omega)).mono ?_
  rintro e w5 ⟨rfl, V5, hl5⟩
  have HL5 := Lib.hid (HL4.out.trans hl5)
  clear hl5 HL4
  go_wp2_with fail
  obtain ⟨W6, hW6, HL6, HN6, HK6⟩ : ∃ W : World, w5.drew = W ∧ Hid (Lay pb w0 v (is ++ [bi] ++ B ++ [⟨11, p, e0, e0, tm0, tm0, [], is.length, false⟩]) W V5) ∧ Hid (Blk W w.heap.size (nodeCells (.mk 16 tx nm p ks) (.slice ka kn kc)) 25) ∧ Hid (KAt 25 W (T.mk 16 tx nm p ks).kids (fun b => b < pb) (.slice ka kn kc)) :=
    ⟨_, rfl, Lib.hid (HL5.out.below (Below.refl _ _).drew), Lib.hid (HL5.out.stays HN0.out HPN.out HVN.out).drew, Lib.hid (HL5.out.kat HK0.out).drew⟩
  obtain ⟨g, L, c5, hL, rfl, ⟨hcx, hfx⟩, ⟨hg1, hg2⟩, hl6⟩ := HL6.out.told (k := is.length) (i := bi) (by simp) (is.length + B.length + 2)
  have hL2 : is.length + B.length + 2 = L := by rw [hL]; simp; omega
  clear hL
  subst hL2
  have HL7 := Lib.hid hl6
  have HBk := Lib.hid HL6.out.blk
  clear hl6
  have hat : (is.length : Int) < (is.length : Int) + (B.length : Int) + 2 := by omega
  refine AnyE.beginAt (S := fun W => Blk W pb [.slice (some ⟨g, 0, none⟩) (is.length + B.length + 2) c5] 93) hW6 (by kernel_rfl) HBk.out (fun hS => ?_)
  clear hW6
  refine AnyE.take (i := 0) (v := .pointer (some ⟨pb, 0, none⟩)) rfl (by kernel_rfl) (by kernel_rfl) (by kernel_rfl) (by kernel_rfl) (fun _ _ _ h => h) (Or.inl ⟨by rfl, fun W _ => by go_simp⟩) hS ?_
  refine AnyE.take (i := 1) (v := .pointer (some ⟨pb, 0, none⟩)) rfl (by kernel_rfl) (by kernel_rfl) (by kernel_rfl) (by kernel_rfl) (fun _ _ _ h => h) (Or.inl ⟨by rfl, fun W _ => by go_simp⟩) hS ?_
  refine AnyE.take (i := 2) (v := .pointer (some ⟨pb, 0, none⟩)) rfl (by kernel_rfl) (by kernel_rfl) (by kernel_rfl) (by kernel_rfl) (fun _ _ _ h => h) (Or.inl ⟨by rfl, fun W _ => by go_simp⟩) hS ?_
  refine AnyE.take (i := 3) (v := .slice (some ⟨g, 0, none⟩) (is.length + B.length + 2) c5) rfl (by kernel_rfl) (by kernel_rfl) (by kernel_rfl) (by kernel_rfl) (fun _ _ _ h => h) (Or.inl ⟨by rfl, fun W hW => by have hcx : W.cell? ⟨pb, 0, none⟩ = some (.slice (some ⟨g, 0, none⟩) (is.length + B.length + 2) c5) := hW.cell 0; go_simp⟩) hS ?_
  refine AnyE.take (i := 4) (v := .int .i64 (is.length : Nat)) rfl (by kernel_rfl) (by kernel_rfl) (by kernel_rfl) (by kernel_rfl) (fun _ _ _ h => h) (Or.inl ⟨by rfl, fun W _ => by go_simp⟩) hS ?_
  refine AnyE.take (i := 5) (v := .pointer (some ⟨pb, 0, none⟩)) rfl (by kernel_rfl) (by kernel_rfl) (by kernel_rfl) (by kernel_rfl) (fun _ _ _ h => h) (Or.inl ⟨by rfl, fun W _ => by go_simp⟩) hS ?_
  refine AnyE.one (i := 6) (by kernel_rfl) rfl (by rfl) (fun K hK => ?_)
  go_simp
  refine (next_any (n := is.length + B.length + 2) (c := c5) (va := some ⟨g, 0, none⟩) HBk.out).mono ?_
  rintro e w8 ⟨rfl, rfl⟩
  refine hK.out _ _ (fun _ => HBk.out) ?_
  clear hK K
  refine AnyE.one (i := 7) (by kernel_rfl) rfl (by rfl) (fun K hK => ?_)
  go_simp
  refine hK.out _ _ (fun _ => HBk.out) ?_
  clear hK K
  refine AnyE.one (i := 8) (by kernel_rfl) rfl (by rfl) (fun K hK => ?_)
  go_simp
  refine hK.out _ _ (fun _ => HBk.out) ?_
  clear hK K
  refine AnyE.one (i := 9) (by kernel_rfl) rfl (by rfl) (fun K hK => ?_)
  go_simp
  refine hK.out _ _ (fun h => absurd rfl h) ?_
  clear hK K
  refine AnyE.done (by kernel_rfl) ?_ _
  have HE := Lib.hid (HL7.out.back HB0.out HLO.out HV.out)
  clear hcx hfx HL7
  go_wp2_with fail
  refine bodyPost_ret (v := .tuple #[]) (by simp [results, Tryd.results80]) rfl ?_
  refine ⟨rfl, .slice (some ⟨g, 0, none⟩) (is.length + B.length + 2) c5, ?_⟩
  have h := HE.out
  rw [show ((is.length + B.length + 2 : Nat) : Int) = (is.length : Int) + (B.length : Int) + 2 by omega] at h
  rw [HST2.out]
  have e : (is ++ [bi] ++ B ++ [(⟨11, p, e0, e0, tm0, tm0, [], is.length, false⟩ : Ins)]).set is.length (bi.setTo (is.length + B.length + 2)) = is ++ branchI (.mk 16 tx nm p ks) (is.length + B.length + 2) :: (B ++ [jumpI (.mk 16 tx nm p ks) is.length]) := by
    rw [HBI.out]
    simp
    exact ⟨rfl, rfl⟩
  rw [e] at h
  exact h


set_option maxRecDepth 100000 in
set_option maxHeartbeats 2000000 in
theorem ifNode_any {n : Nat} (ih : BlockOK n) {w : World} {pb : Nat} {v : Value} {is : List Ins} {tx : ByteArray} {nm : Int} {p : Nat} {ks : List T} {a b c d : T} {kv : Value} (hb : Blk w pb [v] 93) (hi : InsAt w is (fun b => pb < b) v) (hk : KAt 25 w ks (fun b => b < pb) kv)
    (he : ks = [a, b, c, d]) (hc : KindsAre isStmtK c.kids ∧ wholes c.kids) (hd : KindsAre isStmtK d.kids ∧ wholes d.kids) (hn : sizes c.kids + sizes d.kids ≤ n) (hl : is.length + 2 * (sizes c.kids + sizes d.kids) + 4 ≤ 80000) :
    Calls Tryd.prog 79 #[.pointer (some ⟨pb, 0, none⟩), NodeV (.mk 15 tx nm p ks) kv] w (LPost pb w v (is ++ stmtI (blockI n) is.length (.mk 15 tx nm p ks))) := by
  have h2 : kidP (.mk 15 tx nm p ks) 2 = c := by unfold kidP; rw [he]; rfl
  have h3 : kidP (.mk 15 tx nm p ks) 3 = d := by unfold kidP; rw [he]; rfl
  have hst := stmtI_if (blockI n) is.length (t := .mk 15 tx nm p ks) rfl he
  have hlo := hb.lt
  have hvlt : ∀ k, v.ownBlock = some k → k < w.heap.size := fun k hk => (hi.rowLt hk).2
  have hB := blockI_length n c.kids (by omega) hc.1 hc.2
  have hC := count_le.counts_le c.kids
  have hB2 := blockI_length n d.kids (by omega) hd.1 hd.2
  have hC2 := count_le.counts_le d.kids
  obtain ⟨bi, hbi⟩ : ∃ bi, bi = branchI (.mk 15 tx nm p ks) 0 := ⟨_, rfl⟩
  obtain ⟨w0, hw0, HL0, HN0, HK0, HB0, HZ0⟩ : ∃ w0 : World, w.alloc (.cells (nodeCells (.mk 15 tx nm p ks) kv).toArray 25) = w0 ∧ Hid (Lay pb w0 v is w0 v) ∧ Hid (Blk w0 w.heap.size (nodeCells (.mk 15 tx nm p ks) kv) 25) ∧ Hid (KAt 25 w0 (T.mk 15 tx nm p ks).kids (fun b => b < pb) kv) ∧ Hid (Below w.heap.size w w0) ∧ Hid (w.heap.size < w0.heap.size) :=
    ⟨_, rfl, Lib.hid (Lay.start (hb.alloc _) (hi.alloc _)), Lib.hid (Blk.new w _ _), Lib.hid (hk.alloc _), Lib.hid ((Below.refl _ _).alloc (Nat.le_refl _) _), Lib.hid (by simp)⟩
  have HV := Lib.hid hvlt
  have HLO := Lib.hid hlo
  have HST := Lib.hid hst
  have H2 := Lib.hid h2
  have HBI := Lib.hid hbi
  have HLEN := Lib.hid hB
  have HCNT := Lib.hid hC
  have HC := Lib.hid hc
  have HN := Lib.hid hn
  have HLL := Lib.hid hl
  have H3 := Lib.hid h3
  have HLEN2 := Lib.hid hB2
  have HCNT2 := Lib.hid hC2
  have HD := Lib.hid hd
  have HPN := Lib.hid (show w.heap.size ≠ pb by omega)
  have HVN := Lib.hid (show v.ownBlock ≠ some w.heap.size from fun e => by have := hvlt _ e; omega)
  obtain ⟨ka, kn, kc, rfl⟩ := hk.slice
  clear he hst h2 hB hC hc hn hl hb hi hk hvlt hlo hbi h3 hB2 hC2 hd
  unfold NodeV
  simp only [kind_mk, text_mk, num_mk, place_mk]
  go_enter Tryd.func79, Tryd.ntmps79
  go_wp2_with fail
  refine calls_at w0 hw0 ?_
  clear hw0
  refine (branch_any (t := .mk 15 tx nm p ks) HK0.out).mono ?_
  rintro e w1 ⟨u, rfl, hu, hb1⟩
  rw [← HBI.out] at hu ⊢
  obtain ⟨ua, un, uc, rfl⟩ := hu.slice
  have HL1 := Lib.hid (HL0.out.below hb1)
  have HU1 := Lib.hid (argsOf (W0 := w0) (fun k e => Nat.lt_trans (HV.out k e) HZ0.out) (Nat.lt_trans HLO.out HZ0.out) hu)
  clear hu hb1
  unfold InsV
  go_wp2_with fail
  refine (put_any HL1.out.blk HL1.out.ins HU1.out (by have := HLL.out; omega)).mono ?_
  rintro e w2 ⟨rfl, V2, hl2⟩
  have HL2 := Lib.hid (HL1.out.trans hl2)
  have HN2 := Lib.hid (HL2.out.stays HN0.out HPN.out HVN.out)
  have HK2 := Lib.hid (HL2.out.kat HK0.out)
  clear hl2 HU1 HL1
  go_wp2_with (first
    | ((with_reducible refine at_ld 25 (.tmp 3) ?_); refine wpList_load_blk rfl 25 (.tmp 3) rfl w.heap.size (nodeCells (.mk 15 tx nm p ks) (.slice ka kn kc)) rfl HN2.out Tryd.underlying25 rfl Tryd.sizeNode ?_))
  refine (kidOf_any (t := .mk 15 tx nm p ks) HK2.out 2).mono ?_
  rintro e w3 ⟨u3, rfl, hu3, hb3⟩
  rw [H2.out] at hu3 ⊢
  have HL3 := Lib.hid (HL2.out.below hb3)
  have HK3 := Lib.hid hu3
  clear hu3 hb3 HK2 HL2 HN2
  go_wp2_with fail
  refine (ih _ _ _ _ _ _ HL3.out.blk HL3.out.ins HK3.out HC.out.1 HC.out.2 (by have := HN.out; omega) (by have := HLL.out; simp; omega)).mono ?_
  rintro e w4 ⟨rfl, V4, hl4⟩
  have HL4 := Lib.hid (HL3.out.trans hl4)
  have HN4 := Lib.hid (HL4.out.stays HN0.out HPN.out HVN.out)
  have hn4 := HN4.out.cell 3
  simp only [nodeCells, List.getElem?_cons_zero, List.getElem?_cons_succ, place_mk] at hn4
  have hlt4 := HN4.out.lt
  clear hl4 HK3 HL3
  have hlb := HLEN.out (is.length + 1)
  have hst := HST.out
  have e1 : blockI n (is ++ [bi]).length c.kids = blockI n (is.length + 1) c.kids := by rw [show (is ++ [bi]).length = is.length + 1 by simp]
  rw [e1] at HL4
  generalize blockI n (is.length + 1) c.kids = B at HL4 hlb hst
  have HLB := Lib.hid (show B.length ≤ 2 * sizes c.kids by have := HCNT.out; omega)
  have HST2 := Lib.hid hst
  clear e1 hst hlb HST
  go_wp2_with fail
  obtain ⟨J, hJ⟩ : ∃ J : Nat, J = is.length + B.length + 1 := ⟨_, rfl⟩
  obtain ⟨L1, hL1⟩ : ∃ L1 : Nat, L1 = is.length + B.length + 2 := ⟨_, rfl⟩
  have HJ := Lib.hid hJ
  have HL1E := Lib.hid hL1
  clear hJ hL1
  refine (put_any (j := ⟨11, p, e0, e0, tm0, tm0, [], 0, false⟩) HL4.out.blk HL4.out.ins (ArgsAt.nil _ _) (by have := HLL.out; have := HLB.out; simp; omega)).mono ?_
  rintro e w5 ⟨he5, V5, hl5⟩
  rw [show (is ++ [bi] ++ B).length = J by have := HJ.out; simp; omega] at he5
  subst he5
  have HL5 := Lib.hid (HL4.out.trans hl5)
  clear hl5 HL4
  go_wp2_with fail
  obtain ⟨W6, hW6, HL6, HN6, HK6⟩ : ∃ W : World, w5.drew = W ∧ Hid (Lay pb w0 v (is ++ [bi] ++ B ++ [⟨11, p, e0, e0, tm0, tm0, [], 0, false⟩]) W V5) ∧ Hid (Blk W w.heap.size (nodeCells (.mk 15 tx nm p ks) (.slice ka kn kc)) 25) ∧ Hid (KAt 25 W (T.mk 15 tx nm p ks).kids (fun b => b < pb) (.slice ka kn kc)) :=
    ⟨_, rfl, Lib.hid (HL5.out.below (Below.refl _ _).drew), Lib.hid (HL5.out.stays HN0.out HPN.out HVN.out).drew, Lib.hid (HL5.out.kat HK0.out).drew⟩
  obtain ⟨g, L, c5, hL, rfl, ⟨hcx, hfx⟩, ⟨hg1, hg2⟩, hl6⟩ := HL6.out.told (k := is.length) (i := bi) (by simp) (L1)
  have hL2 : L1 = L := by have := HL1E.out; rw [hL]; simp; omega
  clear hL
  subst hL2
  have HL7 := Lib.hid hl6
  have HBk := Lib.hid HL6.out.blk
  clear hl6
  have hat : (is.length : Int) < L1 := by have := HL1E.out; omega
  refine AnyE.beginAt (S := fun W => Blk W pb [.slice (some ⟨g, 0, none⟩) (L1) c5] 93) hW6 (by kernel_rfl) HBk.out (fun hS => ?_)
  clear hW6
  refine AnyE.take (i := 0) (v := .pointer (some ⟨pb, 0, none⟩)) rfl (by kernel_rfl) (by kernel_rfl) (by kernel_rfl) (by kernel_rfl) (fun _ _ _ h => h) (Or.inl ⟨by rfl, fun W _ => by go_simp⟩) hS ?_
  refine AnyE.take (i := 1) (v := .pointer (some ⟨pb, 0, none⟩)) rfl (by kernel_rfl) (by kernel_rfl) (by kernel_rfl) (by kernel_rfl) (fun _ _ _ h => h) (Or.inl ⟨by rfl, fun W _ => by go_simp⟩) hS ?_
  refine AnyE.take (i := 2) (v := .pointer (some ⟨pb, 0, none⟩)) rfl (by kernel_rfl) (by kernel_rfl) (by kernel_rfl) (by kernel_rfl) (fun _ _ _ h => h) (Or.inl ⟨by rfl, fun W _ => by go_simp⟩) hS ?_
  refine AnyE.take (i := 3) (v := .slice (some ⟨g, 0, none⟩) (L1) c5) rfl (by kernel_rfl) (by kernel_rfl) (by kernel_rfl) (by kernel_rfl) (fun _ _ _ h => h) (Or.inl ⟨by rfl, fun W hW => by have hcx : W.cell? ⟨pb, 0, none⟩ = some (.slice (some ⟨g, 0, none⟩) (L1) c5) := hW.cell 0; go_simp⟩) hS ?_
  refine AnyE.take (i := 4) (v := .int .i64 (is.length : Nat)) rfl (by kernel_rfl) (by kernel_rfl) (by kernel_rfl) (by kernel_rfl) (fun _ _ _ h => h) (Or.inl ⟨by rfl, fun W _ => by go_simp⟩) hS ?_
  refine AnyE.take (i := 5) (v := .pointer (some ⟨pb, 0, none⟩)) rfl (by kernel_rfl) (by kernel_rfl) (by kernel_rfl) (by kernel_rfl) (fun _ _ _ h => h) (Or.inl ⟨by rfl, fun W _ => by go_simp⟩) hS ?_
  refine AnyE.one (i := 6) (by kernel_rfl) rfl (by rfl) (fun K hK => ?_)
  go_simp
  refine (next_any (n := L1) (c := c5) (va := some ⟨g, 0, none⟩) HBk.out).mono ?_
  rintro e w8 ⟨rfl, rfl⟩
  refine hK.out _ _ (fun _ => HBk.out) ?_
  clear hK K
  refine AnyE.one (i := 7) (by kernel_rfl) rfl (by rfl) (fun K hK => ?_)
  go_simp
  refine hK.out _ _ (fun _ => HBk.out) ?_
  clear hK K
  refine AnyE.one (i := 8) (by kernel_rfl) rfl (by rfl) (fun K hK => ?_)
  go_simp
  refine hK.out _ _ (fun _ => HBk.out) ?_
  clear hK K
  refine AnyE.one (i := 9) (by kernel_rfl) rfl (by rfl) (fun K hK => ?_)
  go_simp
  refine hK.out _ _ (fun h => absurd rfl h) ?_
  clear hK K
  refine AnyE.done (by kernel_rfl) ?_ _
  obtain ⟨W8, hW8, HL8⟩ : ∃ W : World, w8.setCell ⟨g, is.length * 11 + 9, none⟩ (.int .i64 L1) = W ∧ Hid (Lay pb w0 v (is ++ [branchI (.mk 15 tx nm p ks) L1] ++ B ++ [⟨11, p, e0, e0, tm0, tm0, [], 0, false⟩]) W (.slice (some ⟨g, 0, none⟩) L1 c5)) := by
    refine ⟨_, rfl, Lib.hid ?_⟩
    have h := HL7.out
    have e : (is ++ [bi] ++ B ++ [(⟨11, p, e0, e0, tm0, tm0, [], 0, false⟩ : Ins)]).set is.length (bi.setTo L1) = is ++ [branchI (.mk 15 tx nm p ks) L1] ++ B ++ [⟨11, p, e0, e0, tm0, tm0, [], 0, false⟩] := by
      rw [HBI.out]
      simp
      rfl
    rwa [e] at h
  clear hcx hfx HL7 HL6 HBk HN6 HK6 HL5
  simp only [hW8]
  clear hW8
  have HN8 := Lib.hid (HL8.out.stays HN0.out HPN.out HVN.out)
  have HK8 := Lib.hid (HL8.out.kat HK0.out)
  go_wp2_with (first
    | ((with_reducible refine at_ld 25 (.tmp 3) ?_); refine wpList_load_blk rfl 25 (.tmp 3) rfl w.heap.size (nodeCells (.mk 15 tx nm p ks) (.slice ka kn kc)) rfl HN8.out Tryd.underlying25 rfl Tryd.sizeNode ?_))
  refine (kidOf_any (t := .mk 15 tx nm p ks) HK8.out 3).mono ?_
  rintro e w9 ⟨u9, rfl, hu9, hb9⟩
  rw [H3.out] at hu9 ⊢
  have HL9 := Lib.hid (HL8.out.below hb9)
  have HK9 := Lib.hid hu9
  clear hu9 hb9 HK8 HL8 HN8
  go_wp2_with fail
  refine (ih _ _ _ _ _ _ HL9.out.blk HL9.out.ins HK9.out HD.out.1 HD.out.2 (by have := HN.out; omega) (by have := HLL.out; have := HLB.out; simp; omega)).mono ?_
  rintro e w10 ⟨rfl, V10, hl10⟩
  have HL10 := Lib.hid (HL9.out.trans hl10)
  clear hl10 HK9 HL9
  have hlb := HLEN2.out (is.length + B.length + 2)
  have hst := HST2.out
  have e1 : blockI n (is ++ [branchI (.mk 15 tx nm p ks) L1] ++ B ++ [(⟨11, p, e0, e0, tm0, tm0, [], 0, false⟩ : Ins)]).length d.kids = blockI n (is.length + B.length + 2) d.kids := by congr 1; simp; omega
  rw [e1] at HL10
  generalize blockI n (is.length + B.length + 2) d.kids = B2 at HL10 hlb hst
  have HLB2 := Lib.hid (show B2.length ≤ 2 * sizes d.kids by have := HCNT2.out; omega)
  have HST3 := Lib.hid hst
  clear e1 hst hlb HST2
  obtain ⟨L2, hL2'⟩ : ∃ L2 : Nat, L2 = is.length + B.length + B2.length + 2 := ⟨_, rfl⟩
  have HL2E := Lib.hid hL2'
  clear hL2'
  go_wp2_with fail
  obtain ⟨W11, hW11, HL11, HN11, HK11⟩ : ∃ W : World, w10.drew = W ∧ Hid (Lay pb w0 v (is ++ [branchI (.mk 15 tx nm p ks) L1] ++ B ++ [⟨11, p, e0, e0, tm0, tm0, [], 0, false⟩] ++ B2) W V10) ∧ Hid (Blk W w.heap.size (nodeCells (.mk 15 tx nm p ks) (.slice ka kn kc)) 25) ∧ Hid (KAt 25 W (T.mk 15 tx nm p ks).kids (fun b => b < pb) (.slice ka kn kc)) :=
    ⟨_, rfl, Lib.hid (HL10.out.below (Below.refl _ _).drew), Lib.hid (HL10.out.stays HN0.out HPN.out HVN.out).drew, Lib.hid (HL10.out.kat HK0.out).drew⟩
  obtain ⟨g, L, c5, hL, rfl, ⟨hcx, hfx⟩, ⟨hg1, hg2⟩, hl6⟩ := HL11.out.told (k := J) (i := (⟨11, p, e0, e0, tm0, tm0, [], 0, false⟩ : Ins)) (list_at _ _ _ (by have := HJ.out; simp; omega)) (L2)
  have hL2 : L2 = L := by have := HL2E.out; have := HJ.out; rw [hL]; simp; omega
  clear hL
  subst hL2
  have HL12 := Lib.hid hl6
  have HBk := Lib.hid HL11.out.blk
  clear hl6
  have hat : J < L2 := by have := HL2E.out; have := HJ.out; omega
  refine AnyE.beginAt (S := fun W => Blk W pb [.slice (some ⟨g, 0, none⟩) (L2) c5] 93) hW11 (by kernel_rfl) HBk.out (fun hS => ?_)
  clear hW11
  refine AnyE.take (i := 0) (v := .pointer (some ⟨pb, 0, none⟩)) rfl (by kernel_rfl) (by kernel_rfl) (by kernel_rfl) (by kernel_rfl) (fun _ _ _ h => h) (Or.inl ⟨by rfl, fun W _ => by go_simp⟩) hS ?_
  refine AnyE.take (i := 1) (v := .pointer (some ⟨pb, 0, none⟩)) rfl (by kernel_rfl) (by kernel_rfl) (by kernel_rfl) (by kernel_rfl) (fun _ _ _ h => h) (Or.inl ⟨by rfl, fun W _ => by go_simp⟩) hS ?_
  refine AnyE.take (i := 2) (v := .pointer (some ⟨pb, 0, none⟩)) rfl (by kernel_rfl) (by kernel_rfl) (by kernel_rfl) (by kernel_rfl) (fun _ _ _ h => h) (Or.inl ⟨by rfl, fun W _ => by go_simp⟩) hS ?_
  refine AnyE.take (i := 3) (v := .slice (some ⟨g, 0, none⟩) (L2) c5) rfl (by kernel_rfl) (by kernel_rfl) (by kernel_rfl) (by kernel_rfl) (fun _ _ _ h => h) (Or.inl ⟨by rfl, fun W hW => by have hcx : W.cell? ⟨pb, 0, none⟩ = some (.slice (some ⟨g, 0, none⟩) (L2) c5) := hW.cell 0; go_simp⟩) hS ?_
  refine AnyE.take (i := 4) (v := .int .i64 J) rfl (by kernel_rfl) (by kernel_rfl) (by kernel_rfl) (by kernel_rfl) (fun _ _ _ h => h) (Or.inl ⟨by rfl, fun W _ => by go_simp⟩) hS ?_
  refine AnyE.take (i := 5) (v := .pointer (some ⟨pb, 0, none⟩)) rfl (by kernel_rfl) (by kernel_rfl) (by kernel_rfl) (by kernel_rfl) (fun _ _ _ h => h) (Or.inl ⟨by rfl, fun W _ => by go_simp⟩) hS ?_
  refine AnyE.one (i := 6) (by kernel_rfl) rfl (by rfl) (fun K hK => ?_)
  go_simp
  refine (next_any (n := L2) (c := c5) (va := some ⟨g, 0, none⟩) HBk.out).mono ?_
  rintro e w8 ⟨rfl, rfl⟩
  refine hK.out _ _ (fun _ => HBk.out) ?_
  clear hK K
  refine AnyE.one (i := 7) (by kernel_rfl) rfl (by rfl) (fun K hK => ?_)
  go_simp
  refine hK.out _ _ (fun _ => HBk.out) ?_
  clear hK K
  refine AnyE.one (i := 8) (by kernel_rfl) rfl (by rfl) (fun K hK => ?_)
  go_simp
  refine hK.out _ _ (fun _ => HBk.out) ?_
  clear hK K
  refine AnyE.one (i := 9) (by kernel_rfl) rfl (by rfl) (fun K hK => ?_)
  go_simp
  refine hK.out _ _ (fun h => absurd rfl h) ?_
  clear hK K
  refine AnyE.done (by kernel_rfl) ?_ _
  have HE := Lib.hid (HL12.out.back HB0.out HLO.out HV.out)
  clear hcx hfx HL12
  go_wp2_with fail
  refine bodyPost_ret (v := .tuple #[]) (by simp [results, Tryd.results79]) rfl ?_
  refine ⟨rfl, .slice (some ⟨g, 0, none⟩) L2 c5, ?_⟩
  have h := HE.out
  rw [HST3.out]
  have e : (is ++ [branchI (.mk 15 tx nm p ks) L1] ++ B ++ [(⟨11, p, e0, e0, tm0, tm0, [], 0, false⟩ : Ins)] ++ B2).set J ((⟨11, p, e0, e0, tm0, tm0, [], 0, false⟩ : Ins).setTo L2) = is ++ branchI (.mk 15 tx nm p ks) (is.length + B.length + 2) :: (B ++ jumpI (.mk 15 tx nm p ks) (is.length + B.length + B2.length + 2) :: B2) := by
    rw [list_put _ _ _ _ (by have := HJ.out; simp; omega), HL1E.out, HL2E.out]
    simp [Ins.setTo, jumpI, T.place]
  rw [e] at h
  exact h

end Go.Proofs.YtnmpfpnldcgbaaaDoor
