/- The contract of the parser's block, by how many blocks may yet be opened. append of a whole list of trees, which may be empty: 'n.Kids = append(n.Kids, list...)'. -/
import Derived.Test.YtdkdidgeaalcgaaDoorP12
import Derived.Deep.LoopGhost
import Derived.Laws.AppendOwnNone
namespace Go.Proofs.YtdkdidgeaalcgaaDoor
section
open Go.RowKit

theorem stmtsF_end {item : List Tok → R T} {n : Nat} {l : List Tok} (hn : 0 < n) (h : isT (hdT l) (bs [125]) = true) : stmtsF item n l = .ok ([], l.tail) := by
  cases n with
  | zero => omega
  | succ n => rw [stmtsF, h]; rfl
theorem stmtsF_more {item : List Tok → R T} {n : Nat} {l : List Tok} (h : isT (hdT l) (bs [125]) = false) : stmtsF item (n + 1) l = bd (item l) fun a l1 => bd (stmtsF item n l1) fun xs l2 => .ok (a :: xs, l2) := by
  rw [stmtsF, h]; rfl

theorem Run.setDepth {E : Env} {w W : World} {l : List Tok} {d : Nat} (h : Run E w W l d) (d' : Nat) (hd : d' ≤ 8) : Run E w (W.setCell ⟨E.pb, 2, none⟩ (.int .i64 d')) l d' := ⟨h.kp.setPb _ _, h.st.setDepth d' hd, h.lo, h.lt⟩

def BlkRel (E : Env) (w : World) (l1 : List Tok) (d g : Nat) (pl : Nat) (item : List Tok → R T) (gk : Nat) (wr : World) : Prop :=
  ∃ (ks : List T) (lr : List Tok) (m : Nat) (v : Value), Run E w wr lr d ∧ Blk wr w.heap.size zeroNodeCells 39 ∧ KLoc w wr g (T.mk 9 e0 0 pl ks) v ∧
    stmtsF item l1.length l1 = bd (stmtsF item m lr) (fun xs l' => .ok (ks ++ xs, l')) ∧ lr.length ≤ m ∧ lr.length ≤ gk ∧ ks.length + lr.length ≤ l1.length

set_option maxRecDepth 100000 in
set_option maxHeartbeats 1000000 in
theorem block_zero {E : Env} {w : World} {l : List Tok} {d : Nat} (h : PSt E w l d) (hd : d = 8) :
    Calls Tryd.prog 68 #[.pointer (some ⟨E.pb, 0, none⟩)] w (PPost VNode E w l d (blockP 0 l)) := by
  have HR0 := Lib.hid ((Run.start h).alloc (.cells zeroNodeCells.toArray 39))
  have HB0 := Lib.hid (Blk.new w zeroNodeCells 39)
  have hd8 : (((d : Nat) : Int) == 8) = true := by rw [hd]; rfl
  clear hd
  have hlo := h.plt
  have hlt := h.tlt
  have hln := h.len
  clear h
  go_enter Tryd.func68, Tryd.ntmps68
  go_wp2_with fail
  refine (expect_at HR0.out.st [bs [123]] (by decide) (by decide) (by simp) rfl rfl).mono ?_
  intro e w1 hp
  cases hr : expectP [bs [123]] l with
  | error pc =>
    obtain ⟨p, c⟩ := pc
    obtain ⟨rfl, hk, hcd⟩ := hp.err hr
    have HK := Lib.hid (HR0.out.kp.trans hk)
    have HP := Lib.hid (show blockP 0 l = .error (p, c) by unfold blockP; exact (bd_err hr _))
    clear hr hp hk
    go_wp2
    exact ⟨rfl, Run.err HK.out HP.out hcd⟩
  | ok q =>
    obtain ⟨a1, l1⟩ := q
    obtain ⟨v1, rfl, hv, hs, hl, hk⟩ := hp.ok hr
    obtain ⟨rfl, hto⟩ := hv
    have HR1 := Lib.hid (HR0.out.call hk hs)
    have hzR1 := HR1.out.size
    have HB1 := Lib.hid (HB0.out.kp hk (by omega))
    have hzHB1 := HB1.out.lt
    have HL1 := Lib.hid hl
    have H1 := Lib.hid hr
    clear hr hp hs hl hk hto
    unfold tokV
    obtain ⟨c0, c1, c2, cf⟩ := HR1.out.st.cell
    have hp1 := HR1.out.st.plt
    have HP := Lib.hid (show blockP 0 l = .error (a1.place, 21) by unfold blockP; exact bd_ok H1.out _)
    go_wp2
    exact ⟨rfl, Run.err (HR1.out.alloc _).kp HP.out (.inr rfl)⟩

set_option maxRecDepth 100000 in
set_option maxHeartbeats 1000000 in
theorem block_succ {E : Env} {w : World} {l : List Tok} {d : Nat} (h : PSt E w l d) {n : Nat} (hB : BlockC E (d + 1) (blockP n)) (hd : d + 1 ≤ 8) :
    Calls Tryd.prog 68 #[.pointer (some ⟨E.pb, 0, none⟩)] w (PPost VNode E w l d (blockP (n + 1) l)) := by
  have HR0 := Lib.hid ((Run.start h).alloc (.cells zeroNodeCells.toArray 39))
  have HB0 := Lib.hid (Blk.new w zeroNodeCells 39)
  have HBK := Lib.hid hB
  clear hB
  have hd8 : (((d : Nat) : Int) == 8) = false := by simp; omega
  have hle := h.le
  obtain ⟨i0, z0, I⟩ := Tryd.nodeInfo
  have hlo := h.plt
  have hlt := h.tlt
  have hln := h.len
  clear h
  go_enter Tryd.func68, Tryd.ntmps68
  go_wp2_with fail
  refine (expect_at HR0.out.st [bs [123]] (by decide) (by decide) (by simp) rfl rfl).mono ?_
  intro e w1 hp
  cases hr : expectP [bs [123]] l with
  | error pc =>
    obtain ⟨p, c⟩ := pc
    obtain ⟨rfl, hk, hcd⟩ := hp.err hr
    have HK := Lib.hid (HR0.out.kp.trans hk)
    have HP := Lib.hid (show blockP (n + 1) l = .error (p, c) by unfold blockP; exact (bd_err hr _))
    clear hr hp hk
    go_wp2
    exact ⟨rfl, Run.err HK.out HP.out hcd⟩
  | ok q =>
    obtain ⟨a1, l1⟩ := q
    obtain ⟨v1, rfl, hv, hs, hl, hk⟩ := hp.ok hr
    obtain ⟨rfl, hto⟩ := hv
    have HR1 := Lib.hid (HR0.out.call hk hs)
    have hzR1 := HR1.out.size
    have HB1 := Lib.hid (HB0.out.kp hk (by omega))
    have hzHB1 := HB1.out.lt
    have HL1 := Lib.hid hl
    have H1 := Lib.hid hr
    clear hr hp hs hl hk hto
    unfold tokV
    obtain ⟨c0, c1, c2, cf⟩ := HR1.out.st.cell
    have hp1 := HR1.out.st.plt
    have HRa := Lib.hid (((HR1.out.setDepth (d + 1) hd).alloc (.cells (tokCells a1).toArray 75)).alloc (.cells (nodeCells (T.mk 9 e0 0 a1.place []) (.slice none 0 0)).toArray 39))
    have HBa := Lib.hid (((HB1.out.setOther ⟨E.pb, 2, none⟩ (.int .i64 ((d + 1 : Nat) : Int)) (by show _ ≠ E.pb; omega)).alloc (.cells (tokCells a1).toArray 75)).alloc (.cells (nodeCells (T.mk 9 e0 0 a1.place []) (.slice none 0 0)).toArray 39))
    have HNa : Hid (KLoc w _ (w1.heap.size + 1) (T.mk 9 e0 0 a1.place []) (.slice none 0 0)) := (by
      have h1 := KLoc.new (w := w) (t := T.mk 9 e0 0 a1.place []) (KAt.nil 39 ((w1.setCell ⟨E.pb, 2, none⟩ (.int .i64 ((d + 1 : Nat) : Int))).alloc (.cells (tokCells a1).toArray 75)) (fun b => w.heap.size < b)) (by simp [World.setCell]; omega)
      rw [show ((w1.setCell ⟨E.pb, 2, none⟩ (.int .i64 ((d + 1 : Nat) : Int))).alloc (.cells (tokCells a1).toArray 75)).heap.size = w1.heap.size + 1 by simp [World.setCell]] at h1
      exact h1)
    have HLL := Lib.hid (show l1.length ≤ 16385 by have := HL1.out; omega)
    clear hle
    go_wp2_with fail
    go_loopg [27] l1.length (fun gk _ wr => BlkRel E w l1 (d + 1) (w1.heap.size + 1) a1.place (stmtP (blockP n)) gk wr)
    case atStart =>
      refine ⟨[], l1, l1.length, _, HRa.out, HBa.out, HNa.out, ?_, Nat.le_refl _, Nat.le_refl _, by simp⟩
      cases stmtsF (stmtP (blockP n)) l1.length l1 with
      | error e => rfl
      | ok q => obtain ⟨x, y⟩ := q; rfl
    case round =>
      obtain ⟨ks, lr, mm, v, hR, hBl, hN, hE, hm, hg, hcnt⟩ := hrel
      have HR := Lib.hid hR
      have HBr := Lib.hid hBl
      have HNr := Lib.hid hN
      have HE := Lib.hid hE
      have HM := Lib.hid hm
      have HG := Lib.hid hg
      have HC := Lib.hid hcnt
      have HP0 := Lib.hid hR.st.head.1
      have hzB := hBl.lt
      have hzN := hN.lt
      have hzK : ks.length ≤ 16385 := by have := HLL.out; omega
      clear hR hBl hN hE hm hg hcnt HRa HBa HNa c0 c1 c2 cf
      cases hi : isT (hdT lr) (bs [125]) with
      | true =>
        have HIi := Lib.hid hi
        clear hi
        go_wp2_with fail
        refine (accept_yes HR.out.st HIi.out (by decide)).mono ?_
        rintro e w2 ⟨rfl, hs, hk⟩
        have HR2 := Lib.hid (HR.out.call hk hs)
        have hzR2 := HR2.out.size
        have HB2 := Lib.hid (HBr.out.kp hk (by omega))
        have hzHB2 := HB2.out.lt
        have HN2 := Lib.hid (HNr.out.kp hk (by first | omega | (have := HR0.out.size; simp at *; omega)))
        have hzHN2 := HN2.out.lt
        clear hs hk
        obtain ⟨c0, c1, c2, cf⟩ := HR2.out.st.cell
        have hp2 := HR2.out.st.plt
        have HRb := Lib.hid (HR2.out.setDepth d (by omega))
        have HBb := Lib.hid (HB2.out.setOther ⟨E.pb, 2, none⟩ (.int .i64 (d : Int)) (by show _ ≠ E.pb; omega))
        have HNb := Lib.hid (HN2.out.setOther ⟨E.pb, 2, none⟩ (.int .i64 (d : Int)) (by show _ ≠ E.pb; omega) (fun b h1 _ => by show _ ≠ E.pb; omega))
        have hcast : ((d + 1 : Nat) : Int) - 1 = (d : Int) := by omega
        have HS := Lib.hid (show stmtsF (stmtP (blockP n)) l1.length l1 = .ok (ks, lr.tail) by rw [HE.out, bd_ok (stmtsF_end (by have := HM.out; have := HP0.out; omega) HIi.out)]; simp)
        clear hd8
        have HP := Lib.hid (show blockP (n + 1) l = .ok (T.mk 9 e0 0 a1.place ks, lr.tail) by unfold blockP; exact ((bd_ok H1.out _)).trans ((bd_ok HS.out _)))
        go_wp2_with (first | ((with_reducible refine at_ld 39 (.tmp 4) ?_); refine wpList_load_blk rfl 39 (.tmp 4) rfl (w1.heap.size + 1) (nodeCells (T.mk 9 e0 0 a1.place ks) (v)) rfl HNb.out.blk Tryd.underlying39 rfl Tryd.sizeNode ?_) | ((with_reducible refine at_st 39 (.tmp 2) ?_); refine wpList_store_blk rfl 39 (.tmp 2) (.tmp 44) rfl w.heap.size (nodeCells (T.mk 9 e0 0 a1.place ks) (v)) rfl rfl HBb.out Tryd.sizeNode rfl (nodeCells_one _ _ HNb.out.kids.one) ?_))
        exact ret_blk (cs := nodeCells (T.mk 9 e0 0 a1.place ks) (v)) Tryd.results68 rfl HBb.out Tryd.underlying39 rfl Tryd.sizeNode rfl (Run.node HRb.out (TAt.of_kids (HNb.out.kids.mono (fun _ hb _ => hb.1))) HP.out (by have := HL1.out; have := HC.out; first | omega | (simp only [List.length_tail] at *; omega)))
      | false =>
        have HIi := Lib.hid hi
        clear hi
        go_wp2_with fail
        refine (accept_no HR.out.st HIi.out).mono ?_
        rintro e w2 ⟨rfl, hb⟩
        have HR2 := Lib.hid (HR.out.below hb)
        have hzR2 := HR2.out.size
        have HB2 := Lib.hid (HBr.out.kp (Kp.of_below (pb := E.pb) hb) (by omega))
        have hzHB2 := HB2.out.lt
        have HN2 := Lib.hid (HNr.out.kp (Kp.of_below (pb := E.pb) hb) (by first | omega | (have := HR0.out.size; simp at *; omega)))
        have hzHN2 := HN2.out.lt
        clear hb
        obtain ⟨m0, rfl⟩ : ∃ m0, mm = m0 + 1 := ⟨mm - 1, by have := HM.out; have := HP0.out; omega⟩
        go_wp2_with fail
        refine AnyE.begin2 (S := fun W => Blk W (w1.heap.size + 1) (nodeCells (T.mk 9 e0 0 a1.place ks) (v)) 39) (by kernel_rfl) (HN2.out.blk.drew) (fun hS => ?_)
        refine AnyE.take (i := 0) (v := .pointer (some ⟨w1.heap.size + 1, 4, none⟩)) rfl (by kernel_rfl) (by kernel_rfl) (by kernel_rfl) (by kernel_rfl) (fun _ _ _ h => h) (Or.inl ⟨by rfl, fun W _ => by go_simp⟩) hS ?_
        refine AnyE.take (i := 1) (v := v) rfl (by kernel_rfl) (by kernel_rfl) (by kernel_rfl) (by kernel_rfl) (fun _ _ _ h => h) (Or.inl ⟨by rfl, fun W hW => by have hcx : W.cell? ⟨w1.heap.size + 1, 4, none⟩ = some (v) := hW.cell 4; go_simp⟩) hS ?_
        refine AnyE.take (i := 2) (v := .pointer (some ⟨E.pb, 0, none⟩)) rfl (by kernel_rfl) (by kernel_rfl) (by kernel_rfl) (by kernel_rfl) (fun _ _ _ h => h) (Or.inl ⟨by rfl, fun W _ => by go_simp⟩) hS ?_
        refine AnyE.one (i := 3) (by kernel_rfl) rfl (by rfl) (fun K hK => ?_)
        go_simp
        refine (statement_any (HR2.out.drew).st HBK.out).mono ?_
        intro e w3 hp
        cases hr : stmtP (blockP n) lr with
        | error pc =>
          obtain ⟨p, c⟩ := pc
          obtain ⟨rfl, hk, hcd⟩ := hp.err hr
          have HK := Lib.hid ((HR2.out.drew).kp.trans hk)
          have HP := Lib.hid (show blockP (n + 1) l = .error (p, c) by unfold blockP; exact (bd_ok H1.out _).trans (bd_err (HE.out.trans (bd_err ((stmtsF_more HIi.out).trans ((bd_err hr _))) _)) _))
          clear hr hp hk
          go_wp2
          exact ⟨rfl, Run.err HK.out HP.out hcd⟩
        | ok q =>
          obtain ⟨a3, l3⟩ := q
          obtain ⟨v3, rfl, hv, hs, hl, hk⟩ := hp.ok hr
          obtain ⟨kv3, rfl, ht⟩ := hv
          have HT3 := Lib.hid (ht.weak (HB2.out.drew).lt)
          have huHN3 := Blk.lt_kp hk (HN2.out.drew).blk
          have HU3 := Lib.hid (ht.mono (S' := fun b => w.heap.size < b ∧ (w1.heap.size + 1) < b) (fun b hb _ => by have := Blk.lt_kp hk (HB2.out.drew); omega))
          have HF3 := Lib.hid (KLoc.fresh hk (HN2.out.drew) ht)
          have HG3 := Lib.hid (KLoc.fresh2 hk (HN2.out.drew) ht)
          have HR3 := Lib.hid ((HR2.out.drew).call hk hs)
          have hzR3 := HR3.out.size
          have HB3 := Lib.hid ((HB2.out.drew).kp hk (by omega))
          have hzHB3 := HB3.out.lt
          have HN3 := Lib.hid ((HN2.out.drew).kp hk (by first | omega | (have := HR0.out.size; simp at *; omega)))
          have hzHN3 := HN3.out.lt
          have HL3 := Lib.hid hl
          have H3 := Lib.hid hr
          clear hr hp hs hl hk ht
          unfold NodeV
          refine hK.out _ _ (fun _ => HN3.out.blk) ?_
          clear hK K
          refine AnyE.one (i := 4) (by kernel_rfl) rfl (by rfl) (fun K hK => ?_)
          go_simp
          refine hK.out _ _ (fun _ => (HN3.out.alloc _).blk) ?_
          clear hK K
          refine AnyE.one (i := 5) (by kernel_rfl) rfl (by rfl) (fun K hK => ?_)
          refine wp_append_trees (.tmp 31) (.tmp 34) rfl I (ts := [a3]) rfl (HN3.out.alloc _).kids (us := [kv3]) (TsAt.single (HF3.out.alloc _)) ⟨by simp; omega, by simp; omega⟩ rfl rfl (by simp) (lit1_at w3 _ a3 kv3) (by show ks.length + _ ≤ _; simp; omega) ?_
          intro v3x w3x hKx hgx _
          obtain ⟨sa3x, sn3x, sc3x, rfl⟩ := hKx.slice
          obtain ⟨h1, h2, h3, hcx, hfx, h6⟩ := afterAppend (HR3.out.alloc _) (HB3.out.alloc _) (HN3.out.alloc _) hKx hgx
          have HR3x := Lib.hid h1
          have HB3x := Lib.hid h2
          have HN3x := Lib.hid h3
          have HC3x := Lib.hid h6
          clear h1 h2 h3 h6 hKx hgx
          refine hK.out _ _ (fun _ => HC3x.out) ?_
          clear hK K
          refine AnyE.one (i := 6) (by kernel_rfl) rfl (by rfl) (fun K hK => ?_)
          go_simp
          refine hK.out _ _ (fun _ => HC3x.out) ?_
          clear hK K
          refine AnyE.one (i := 7) (by kernel_rfl) rfl (by rfl) (fun K hK => ?_)
          go_simp
          refine hK.out _ _ (fun h => absurd rfl h) ?_
          clear hK K
          refine AnyE.done (by kernel_rfl) ?_ _
          clear hcx hfx
          generalize w3x.setCell ⟨w1.heap.size + 1, 4, none⟩ (.slice sa3x sn3x sc3x) = w3y at HR3x HB3x HN3x ⊢
          have hzHB3y := HB3x.out.lt
          have hzHN3y := HN3x.out.lt
          go_wp2
          go_roundg (gk - 1)
          case measure => have := HG.out; have := HP0.out; omega
          case rel =>
            have h1 := HL3.out
            have h2 := HM.out
            have h4 := HG.out
            have h5 := HC.out
            have h6 := HP0.out
            refine ⟨ks ++ [a3], l3, m0, _, HR3x.out, HB3x.out, HN3x.out, ?_, by omega, by omega, by simp; omega⟩
            rw [HE.out, stmtsF_more HIi.out, bd_bd, bd_ok H3.out, bd_bd]
            congr 1
            funext xs l'
            simp [bd]

theorem blockC (E : Env) : ∀ (n d : Nat), d + n = 8 → BlockC E d (blockP n)
  | 0, d, hd => ⟨fun h => block_zero h (by omega)⟩
  | n + 1, d, hd => ⟨fun h => block_succ h (blockC E n (d + 1) (by omega)) (by omega)⟩
end

section
open Go.RowKit

theorem append_block0 {P : Program} {w : World} {t ty e : TypeId} {i : TypeInfo} (ht : P.underlying t = some (.slice e)) (hi : P.info? e = some i) (hsize : i.size = 5)
    {v : Value} {n : Nat} {xs : List Value} (hown : w.ownsRow 0 e 5 v n xs) {a : Addr} {c : Nat} {v' : Value} {w' : World} (hr : (Builtin.append_ #[t, t] ty #[v, .slice (some a) 0 c]).run P w = .ok v' w') (hnil : v = .slice none 0 0 → v' = .slice none 0 0) : v'.ownBlock = v.ownBlock := by
  rcases hown.2 with ⟨rfl, rfl⟩ | ⟨g, cap, cur, rfl, hbg, hg, hnc, hcm, hcs, htake⟩
  · rw [hnil rfl]
  · have h := run_append_room (P := P) w t ty e i ht hi g n cap cur hg a 0 c [] (by simp) (by simp) (by simp) (by omega) (by rw [hcs, hsize]; simp; exact Nat.mul_le_mul_right _ hnc)
    rw [h] at hr
    cases hr
    rfl

theorem wp_append_kids {P : Program} {w : World} {o : Oper} {a : Act} {K : Act → World → Prop} {Q : Exit → Act → World → Prop} (s x : Operand) {t e : TypeId} (ho : o.op = .call { callee := .builtin .append, args := #[s, x], argTypes := #[t, t] })
    {i : TypeInfo} {z : Value} (I : NodeInfo P t e i z) {ks ts : List T} {S : Nat → Prop} {v y : Value} (hs : a.eval s = v) (hk : KAt e w ks S v) (hx : a.eval x = y)
    (hts : KAt e w ts (fun b => S b ∧ v.ownBlock ≠ some b) y) (hS : S w.heap.size) (hb : ks.length + ts.length ≤ 100000)
    (h : ∀ v' w', KAt e w' (ks ++ ts) S v' → w.grownBy w' v.ownBlock → K (a.put o.dst v') w') : o.wp P a w K Q := by
  obtain ⟨us, ho', hSu, hus⟩ := hts
  have hus' : TsAt e w ts (fun b => S b ∧ v.ownBlock ≠ some b) us := TsAt.keep ts hus fun b hb _ => ⟨hb.1, rfl⟩
  rcases ho'.2 with ⟨rfl, h0⟩ | ⟨g, cap, cur, rfl, hbg, hg, hnc, hcm, hcs, htake⟩
  · obtain rfl : ts = [] := List.eq_nil_of_length_eq_zero h0
    have hk' := hk
    obtain ⟨vs, hown, _⟩ := hk
    have hrun := run_append_owned_none (P := P) (w := w) 0 t o.type e i 5 I.ht I.hi v ks.length _ hown
    unfold Oper.wp
    simp [execOp, ho, resolve, invoke, builtin, hs, hx, hrun, Result.andThen]
    exact h v w (by rw [List.append_nil]; exact hk') ⟨rfl, rfl, rfl, Nat.le_refl _, fun _ _ _ => rfl⟩
  · by_cases hm : 0 < ts.length
    · exact wp_append_trees s x ho I hs hk hus' hS hx rfl hm (ho'.cells (g := g) rfl) hb fun v' w' h1 h2 _ => h v' w' h1 h2
    · obtain rfl : ts = [] := List.eq_nil_of_length_eq_zero (by omega)
      obtain ⟨vs, hown, hSv, hks⟩ := hk
      obtain ⟨v', w', hr, ho2, hg', hnil⟩ := run_append_own (P := P) w 0 t o.type e i z 5 64 I.ht I.hi I.hz I.size I.bytes I.zs (by decide) v ks.length (rowCells ks vs) hown ⟨g, 0, none⟩ 0 cap [] (by simp) (by simp) (by simp) (by unfold maxLen; simp at hb; omega) (by simp at hb; omega) (Nat.zero_le _)
      have hbk := append_block0 I.ht I.hi I.size hown hr (fun hv => hnil.2 ⟨hv, rfl⟩)
      unfold Oper.wp execOp
      simp only [ho, resolve, invoke, builtin, Sem.run_bind, Sem.run_pure, Result.andThen_ok, List.map_toArray, List.map_cons, List.map_nil, hs, hx, List.length_nil, hr]
      refine h v' w' ⟨vs, ?_, fun g hg => hSv g (hbk ▸ hg), ?_⟩ hg'
      · rw [List.append_nil]
        simpa using ho2
      · rw [List.append_nil]
        exact TsAt.keep ks hks fun b hb hl => ⟨⟨hb.1, fun he => hb.2 (hbk ▸ he)⟩, hg'.block b hl (Ne.symm hb.2)⟩
end

end Go.Proofs.YtdkdidgeaalcgaaDoor
