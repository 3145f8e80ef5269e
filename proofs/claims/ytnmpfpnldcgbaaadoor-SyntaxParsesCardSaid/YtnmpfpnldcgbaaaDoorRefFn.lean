/- The contract of lychgateref02.fn. -/
import Derived.Test.YtnmpfpnldcgbaaaDoorRefBlock
namespace Go.Proofs.YtnmpfpnldcgbaaaDoor
open Go.RowKit

/- A cell of another block is written: none of the kids lies in it. -/
theorem RLoc.cellFar {E : Env} {w W : World} {d : Nat} {l : List Tok} {f : Int} {q g : Nat} {t : T} {v : Value} (h : RLoc E w W d l f q g t v) (go : Nat) (h1 : w.heap.size < go) (h2 : go ≠ g) (hk : KAt 31 W t.kids (fun b => (w.heap.size < b ∧ b ≠ g) ∧ b < go) v) (i : Nat) (x : Value) : RLoc E w (W.setCell ⟨go, i, none⟩ x) d l f q g t v := by
  have hp := h.plt
  have ht := h.tlt
  obtain ⟨old, ho, hl⟩ := h.res
  exact ⟨h.st.far _ _ (by show _ ≠ go; omega) (by show _ ≠ go; omega), h.kp.setNew (p := ⟨go, i, none⟩) (by show _ ≤ go; omega) _, ⟨old, ho.setOther _ _ (by show _ ≠ go; omega), hl⟩, h.blk.setOther _ _ (by show _ ≠ go; omega), (hk.setCell ⟨go, i, none⟩ x (fun b hb => by show b ≠ go; omega)).mono (fun b hb _ => hb.1), h.gt, h.plt, h.tlt⟩
theorem param_eq (l : List Tok) : paramP l = bd (nameTermP l) fun a l1 => bd (expectP [bs [58]] l1) fun _ l2 => bd (modeP l2) fun m l3 => .ok (.mk 7 a.text a.num a.place [m], l3) := by
  unfold paramP nameTermP
  cases nameP l with
  | error e => rfl
  | ok x => rfl
def finParen (xs : List T) (l : List Tok) : R (List T) := bd (expectP [bs [41]] l) fun _ l => .ok (xs, l)
theorem finParen_cons (a : T) (xs : List T) (l : List Tok) : finParen (a :: xs) l = bd (finParen xs l) fun ys l => .ok (a :: ys, l) := by
  unfold finParen
  rw [rbd_bd]
  rfl
def bodyP (item : List Tok → R T) (l : List Tok) : R (List T) := bif isT (hdT l) (bs [41]) then .ok ([], l.tail) else bd (item l) fun a l => bd (listF item l.length l) fun xs l => finParen (a :: xs) l
theorem parens_eq (item : List Tok → R T) (l : List Tok) : parensP item l = bd (expectP [bs [40]] l) fun _ l => bodyP item l := by
  unfold parensP bodyP listP finParen
  congr 1
  funext a l1
  congr 1
  rw [rbd_bd]
  congr 1
  funext a l2
  rw [rbd_bd]
  rfl
/- The loop over the parameters: the flag tells that there is none more. -/
def FnRel (E : Env) (w : World) (d : Nat) (l2 : List Tok) (f2 : Int) (q2 : Nat) (gn : Nat) (t0 : T) (item : List Tok → R T) (g : Nat) (op : Value) (wr : World) : Prop :=
  ∃ b ks v lc fc qc, op = .bool b ∧ RLoc E w wr d lc fc qc gn (t0.setKids ks) v ∧ ks.length + g ≤ 16500 ∧
    (b = false → ((fc == 0) = true → lc.length + 1 ≤ g ∧ ∃ N : List Tok → Nat, (∀ l', l'.length ≤ lc.length → l'.length ≤ N l') ∧
      ∀ ys lf f' q', Sees lc fc qc (bd (item lc) fun a l => bd (listF item (N l) l) fun xs l => finParen (a :: xs) l) ys lf f' q' → Sees l2 f2 q2 (bodyP item l2) (ks ++ ys) lf f' q') ∧
      ((fc == 0) = false → ∀ ys, Sees l2 f2 q2 (bodyP item l2) ys lc fc qc)) ∧
    (b = true → Sees l2 f2 q2 (bodyP item l2) ks lc fc qc)

/- A parameter is put together: its mode is its one kid. -/
theorem RLoc.param {E : Env} {w W : World} {d : Nat} {l : List Tok} {f : Int} {q g gq : Nat} {t u : T} {v x : Value} {kb nb : Int} {sb : ByteArray} {pb : Nat} (h : RLoc E w W d l f q g t v) (hb : Blk W gq (nodeCells (T.mk kb sb nb pb []) (.slice none 0 0)) 31) (h1 : w.heap.size < gq) (h2 : gq ≠ g)
    (hk : KAt 31 W t.kids (fun b => (w.heap.size < b ∧ b ≠ g) ∧ b < gq) v) (hu : KAt 31 W u.kids (fun b => gq < b) x) (hg : g < gq) :
    RLoc E w ((((W.setCell ⟨gq, 0, none⟩ (.int .i64 7)).setCell ⟨gq, 4, none⟩ (.slice (some ⟨W.heap.size + 1, 0, none⟩) 1 1)).alloc (.cells (nodeCells u x).toArray 31)).alloc (.cells (nodeCells u x).toArray 31)) d l f q g t v ∧
    Blk ((((W.setCell ⟨gq, 0, none⟩ (.int .i64 7)).setCell ⟨gq, 4, none⟩ (.slice (some ⟨W.heap.size + 1, 0, none⟩) 1 1)).alloc (.cells (nodeCells u x).toArray 31)).alloc (.cells (nodeCells u x).toArray 31)) gq (nodeCells (T.mk 7 sb nb pb [u]) (.slice (some ⟨W.heap.size + 1, 0, none⟩) 1 1)) 31 ∧
    KAt 31 ((((W.setCell ⟨gq, 0, none⟩ (.int .i64 7)).setCell ⟨gq, 4, none⟩ (.slice (some ⟨W.heap.size + 1, 0, none⟩) 1 1)).alloc (.cells (nodeCells u x).toArray 31)).alloc (.cells (nodeCells u x).toArray 31)) [u] (fun b => (w.heap.size < b ∧ b ≠ g) ∧ v.ownBlock ≠ some b) (.slice (some ⟨W.heap.size + 1, 0, none⟩) 1 1) := by
  have hlt := hb.lt
  have hown : ∀ k, v.ownBlock = some k → k < gq := fun k e => (hk.choose_spec.2.1 k e).2
  have s1 := h.cellFar gq h1 h2 hk 0 (.int .i64 7)
  have hk1 : KAt 31 (W.setCell ⟨gq, 0, none⟩ (.int .i64 7)) t.kids (fun b => (w.heap.size < b ∧ b ≠ g) ∧ b < gq) v := hk.setCell ⟨gq, 0, none⟩ _ (fun b hb => by show b ≠ gq; omega)
  have s2 := s1.cellFar gq h1 h2 hk1 4 (.slice (some ⟨W.heap.size + 1, 0, none⟩) 1 1)
  refine ⟨(s2.alloc _).alloc _, ((((hb.setSame 0 _).setSame 4 _).alloc _).alloc _), ?_⟩
  have hx : KAt 31 ((W.setCell ⟨gq, 0, none⟩ (.int .i64 7)).setCell ⟨gq, 4, none⟩ (.slice (some ⟨W.heap.size + 1, 0, none⟩) 1 1)) u.kids (fun b => gq < b) x := (hu.setCell ⟨gq, 0, none⟩ _ (fun b hb => by show b ≠ gq; omega)).setCell ⟨gq, 4, none⟩ _ (fun b hb => by show b ≠ gq; omega)
  have hk2 := KAt.lit1 (e := 31) (w := ((W.setCell ⟨gq, 0, none⟩ (.int .i64 7)).setCell ⟨gq, 4, none⟩ (.slice (some ⟨W.heap.size + 1, 0, none⟩) 1 1)).alloc (.cells (nodeCells u x).toArray 31)) (t := u) (S := fun b => gq < b) (TAt.of_kids (hx.alloc _)) (by simp only [World.size_alloc, World.size_setCell]; omega)
  rw [show (((W.setCell ⟨gq, 0, none⟩ (.int .i64 7)).setCell ⟨gq, 4, none⟩ (.slice (some ⟨W.heap.size + 1, 0, none⟩) 1 1)).alloc (.cells (nodeCells u x).toArray 31)).heap.size = W.heap.size + 1 by simp] at hk2
  exact hk2.mono fun b hb _ => ⟨⟨by omega, by omega⟩, fun e => by have := hown b e; omega⟩

theorem fn_eq (p : Nat) (l : List Tok) : fnP p l = bd (nameTermP l) fun n l1 => bd (expectP [bs [40]] l1) fun _ l2 => bd (bodyP paramP l2) fun xs l3 => bd (resultP l3) fun r l4 => bd (blockP 8 l4) fun b l5 => .ok (.mk 6 n.text n.num p (xs ++ [r, b]), l5) := by
  unfold fnP
  simp only [parens_eq, rbd_bd]
  unfold nameTermP
  cases nameP l with
  | error e => rfl
  | ok x => rfl
theorem keyArrow : keySign (bs [45, 62]) = true := by kernel_rfl
theorem key58 : keySign (bs [58]) = true := by kernel_rfl
theorem value_ref {l : List Tok} (h : isT (hdT l) (bs [38]) = true) : valueModeP l = .error ((hdT l).place, 20) := by
  have h1 : isT (hdT l) (bs [105, 110, 116]) = false := isT_not h (by kernel_rfl)
  have h2 : isT (hdT l) (bs [111, 119, 110]) = false := isT_not h (by kernel_rfl)
  unfold valueModeP expectP
  simp [h1, h2, bd]
theorem value_mode {l : List Tok} (h : isT (hdT l) (bs [38]) = false) : valueModeP l = modeP l := by
  unfold modeP
  rw [h]
  rfl

set_option maxRecDepth 100000 in
set_option maxHeartbeats 8000000 in
theorem rfn_tot {E : Env} {w : World} {l : List Tok} {f : Int} {q : Nat} (h : RSt E w l 0 f q) (hkw : KW E) (p : Nat) :
    Calls Tryd.prog 35 #[.pointer (some ⟨E.pb, 0, none⟩), .int .i64 p] w (RTot E w 0 l f q (fnP p l)) := by
  have H := Lib.hid h
  have hplt := h.plt
  have htlt := h.tlt
  have hlen := h.len
  have HBC := Lib.hid (rblock_all hkw 8 0 rfl)
  have H0 := Lib.hid (h.alloc (.cells zeroNodeCells.toArray 31))
  have HK0 := Lib.hid ((Kp.refl E.pb w).alloc (.cells zeroNodeCells.toArray 31))
  have HBr0 := Lib.hid (Blk.new w zeroNodeCells 31)
  clear h
  obtain ⟨i0, z0, I⟩ := Tryd.refInfo
  go_enter Tryd.func35, Tryd.ntmps35
  go_wp2_with fail
  refine (rname2_tot H0.out).mono ?_
  rintro e w1 ⟨ka, sa, na, pa, l1, f1, q1, rfl, hs1, hp1, hsee1⟩
  have HB1 := Lib.hid (HBr0.out.kp hp1 (by omega))
  have HK1 := Lib.hid (HK0.out.trans hp1)
  have H1 := Lib.hid hs1
  have HS1 := Lib.hid hsee1
  have hz1 := HB1.out.lt
  clear hs1 hp1 hsee1
  go_wp2_with fail
  have RL1 := Lib.hid (RLoc.new (t := T.mk 6 sa na p []) (v := .slice none 0 0) H1.out HK1.out HB1.out rfl (KAt.nil _ _ _) hplt htlt)
  refine (rmust_tot RL1.out.st (bs [40]) key40 (by decide)).mono ?_
  rintro e w2 ⟨l2, f2, q2, rfl, hs2, hp2, tk2, hsee2⟩
  have RL2 := Lib.hid (RL1.out.call hp2 hs2)
  have HS2 := Lib.hid hsee2
  have hl2 := hs2.le
  clear hs2 hp2 hsee2
  go_wp2_with fail
  refine (rhas_tot RL2.out.st (bs [41]) key41 (by decide)).mono ?_
  rintro e w3 ⟨b3, l3, rfl, hs3, hp3, hc3⟩
  have RL3 := Lib.hid (RL2.out.call hp3 hs3)
  have HC3 := Lib.hid hc3
  clear hs3 hp3 hc3
  go_wp2_with fail
  go_loopg [6] (l2.length + 2) (fun g op wr => FnRel E w 0 l2 f2 q2 w1.heap.size (T.mk 6 sa na p []) paramP g op wr)
  case atStart =>
    rcases HC3.out with ⟨rfl, hfy, hiy, rfl⟩ | ⟨rfl, hxy, rfl⟩
    · refine ⟨true, [], _, _, _, _, rfl, RL3.out, by simp; omega, fun h => (by cases h), fun _ => ?_⟩
      exact Sees.yes hiy hfy (Sees.done _ _ _ _)
    · refine ⟨false, [], _, _, _, _, rfl, RL3.out, by simp; omega, fun _ => ⟨fun hf => ⟨by omega, fun l => l.length, fun l' _ => Nat.le_refl _, fun ys lf f' q' hy => ?_⟩, fun hf ys => .inr ⟨hf, rfl, rfl, rfl⟩⟩, fun h => by cases h⟩
      rw [List.nil_append]
      exact Sees.no hxy hy
  case round =>
    obtain ⟨b, ks, v, lc, fc, qc, rfl, hrl, hcnt, hno, hyes⟩ := hrel
    have RL := Lib.hid hrl
    have HN := Lib.hid hno
    have HY := Lib.hid hyes
    have g3 : wr.cell? ⟨E.pb, 3, none⟩ = some (.int .i64 fc) := hrl.st.blk.cell 3
    have hplr : E.pb < wr.heap.size := hrl.st.plt
    clear hrl hno hyes
    by_cases hgo : b = false ∧ (fc == 0) = true
    · obtain ⟨rfl, hfc⟩ := hgo
      obtain rfl : fc = 0 := beq_iff_eq.1 hfc
      obtain ⟨hg, N, hN, hcont⟩ := (HN.out rfl).1 hfc
      have HNN := Lib.hid hN
      have HCO := Lib.hid hcont
      have hpos := RL.out.st.head.1
      clear hN hcont HN HY
      go_wp2_with fail
      refine (rname2_tot RL.out.st).mono ?_
      rintro e w5 ⟨kb, sb, nb, pb', l5, f5, q5, rfl, hs5, hp5, hsee5⟩
      have RL5 := Lib.hid (RL.out.call hp5 hs5)
      have RLq := Lib.hid (RL5.out.alloc (.cells (nodeCells (T.mk kb sb nb pb' []) (.slice none 0 0)).toArray 31))
      have HBq := Lib.hid (Blk.new w5 (nodeCells (T.mk kb sb nb pb' []) (.slice none 0 0)) 31)
      have HKq := Lib.hid ((RL5.out.kids.mono (S' := fun b => (w.heap.size < b ∧ b ≠ w1.heap.size) ∧ b < w5.heap.size) (fun b hb hl => ⟨hb, hl⟩)).alloc (.cells (nodeCells (T.mk kb sb nb pb' []) (.slice none 0 0)).toArray 31))
      have HS5 := Lib.hid hsee5
      have hz5 : w1.heap.size < w5.heap.size := RL5.out.lt
      have hz5w : w.heap.size < w1.heap.size := RL5.out.gt
      clear hs5 hp5 hsee5 g3
      go_wp2_with fail
      refine (rmust_tot RLq.out.st (bs [58]) key58 (by decide)).mono ?_
      rintro e w6 ⟨l6, f6, q6, rfl, hs6, hp6, tk6, hsee6⟩
      have RL6 := Lib.hid (RLq.out.call hp6 hs6)
      have HBq6 := Lib.hid (HBq.out.kp hp6 (by omega))
      have HKq6 := Lib.hid (HKq.out.kp hp6 (fun b hb => by omega))
      have HS6 := Lib.hid hsee6
      have hz6 : w5.heap.size < w6.heap.size := HBq6.out.lt
      clear hs6 hp6 hsee6
      go_wp2_with fail
      refine (rmode_tot RL6.out.st).mono ?_
      rintro e w7 ⟨t7, v7, l7, f7, q7, rfl, hk7, hn7, hs7, hp7, hsee7⟩
      have RL7 := Lib.hid (RL6.out.call hp7 hs7)
      have HBq7 := Lib.hid (HBq6.out.kp hp7 (by omega))
      have HKq7 := Lib.hid (HKq6.out.kp hp7 (fun b hb => by omega))
      have HV7 := Lib.hid (show KAt 31 w7 t7.kids (fun b => w5.heap.size < b) v7 from hk7.mono (fun b hb _ => by omega))
      have HS7 := Lib.hid hsee7
      have hz7 : w5.heap.size < w7.heap.size := HBq7.out.lt
      have hpar := RL7.out.param HBq7.out (by omega) (by omega) HKq7.out HV7.out hz5
      have RP := Lib.hid hpar.1
      have HBP := Lib.hid hpar.2.1
      have HKP := Lib.hid hpar.2.2
      have m0 : w7.cell? ⟨w5.heap.size, 0, none⟩ = some (.int .i64 kb) := HBq7.out.cell 0
      have mf0 := HBq7.out.frozen 0
      have m4 : w7.cell? ⟨w5.heap.size, 4, none⟩ = some (.slice none 0 0) := HBq7.out.cell 4
      have mf4 := HBq7.out.frozen 4
      have n4 : w7.cell? ⟨w1.heap.size, 4, none⟩ = some v := RL7.out.blk.cell 4
      have hz7a : w5.heap.size ≠ w7.heap.size := by omega
      have hz7b : w5.heap.size + 1 ≠ w7.heap.size + 1 := by omega
      have hz7c : w1.heap.size ≠ w7.heap.size := by omega
      have hz7d : w1.heap.size < w7.heap.size := by omega
      clear hk7 hn7 hs7 hp7 hsee7 hpar
      unfold NodeV
      go_wp2_with (first | ((with_reducible refine at_st 31 (.tmp 8) ?_); refine wpList_store_new rfl 31 (.tmp 8) (.tmp 37) rfl (nodeCells t7 v7) (old := zeroNodeCells) rfl rfl Tryd.sizeRef rfl (nodeCells_one _ _ HV7.out.one) ?_) | ((with_reducible refine at_ld 31 (.tmp 8) ?_); refine wpList_load_node rfl 31 (.tmp 8) rfl w7.heap.size t7 v7 rfl (Blk.newEq (by simp) _ _) Tryd.underlying31 rfl Tryd.sizeRef ?_) | ((with_reducible refine at_ld 31 (.tmp 7) ?_); refine wpList_load_node rfl 31 (.tmp 7) rfl w5.heap.size (T.mk 7 sb nb pb' [t7]) (.slice (some ⟨w7.heap.size + 1, 0, none⟩) 1 1) rfl HBP.out Tryd.underlying31 rfl Tryd.sizeRef ?_) | (at_builtin; refine wpList_append_trees rfl (.tmp 43) (.tmp 45) rfl I (ks := ks) (ts := [T.mk 7 sb nb pb' [t7]]) (S := fun b => w.heap.size < b ∧ b ≠ w1.heap.size) rfl (RP.out.alloc _).kids (us := [.slice (some ⟨w7.heap.size + 1, 0, none⟩) 1 1]) (TsAt.single ?c1) ?c2 rfl rfl (by simp) (lit1_eq _ (by simp) _ _ _) ?c3 ?_))
      case c1 => exact TAt.of_kids (HKP.out.alloc _)
      case c2 => simp only [World.size_alloc, World.size_setCell]; omega
      case c3 => simp; omega
      intro v8 w8 hK8 hg8 hb8
      obtain ⟨sa', sn, sc, rfl⟩ := hK8.slice
      obtain ⟨ha1, ha2, ha3, ha4⟩ := (RP.out.alloc _).after hK8 hg8
      have RL8 := Lib.hid ha1
      have HIT : Hid (Sees lc 0 qc (paramP lc) (T.mk 7 sb nb pb' [t7]) l7 f7 q7) := Lib.hid (by rw [param_eq]; exact HS5.out.andThen (HS6.out.andThen (HS7.out.map (fun m => T.mk 7 sb nb pb' [m]))))
      clear ha1 hK8 hg8 hb8 n4 m0 mf0 m4 mf4
      go_wp2_with fail
      refine (rhas_tot RL8.out.st (bs [44]) key44 (by decide)).mono ?_
      rintro e w9 ⟨b9, l9, rfl, hs9, hp9, hc9⟩
      have RL9 := Lib.hid (RL8.out.call hp9 hs9)
      clear hs9 hp9 ha2 ha3
      simp only [setKids_setKids] at RL9
      rcases hc9 with ⟨rfl, hf9, hi9, rfl⟩ | ⟨rfl, hx9, rfl⟩
      · go_wp2_with fail
        go_roundg (gk - 1)
        case measure => omega
        case rel =>
          have hlen5 := HIT.out.len (beq_iff_eq.1 hf9)
          have hpos7 := RL7.out.st.head.1
          have hnl := HNN.out l7 hlen5
          obtain ⟨m, hm⟩ : ∃ m, N l7 = m + 1 := ⟨N l7 - 1, by omega⟩
          refine ⟨false, ks ++ [T.mk 7 sb nb pb' [t7]], _, _, _, _, rfl, RL9.out, by simp; omega, fun _ => ⟨fun _ => ⟨by rw [List.length_tail]; omega, fun _ => m, fun l' hl' => by rw [List.length_tail] at hl'; show l'.length ≤ m; omega, fun ys lf f' q' hy => ?_⟩, fun hf => by rw [hf9] at hf; cases hf⟩, fun h => by cases h⟩
          have := HCO.out (T.mk 7 sb nb pb' [t7] :: ys) lf f' q' (HIT.out.andThen (by rw [hm, item_more finParen_cons hi9]; exact (Sees.behind hf9 hy).andThen (Sees.done _ _ _ _)))
          rw [List.append_assoc]
          exact this
      · go_wp2_with fail
        refine (rmust_tot RL9.out.st (bs [41]) key41 (by decide)).mono ?_
        rintro e w10 ⟨l10, f10, q10, rfl, hs10, hp10, tk10, hsee10⟩
        have RL10 := Lib.hid (RL9.out.call hp10 hs10)
        have HS10 := Lib.hid hsee10
        clear hs10 hp10 hsee10
        go_wp2_with fail
        go_roundg (gk - 1)
        case measure => omega
        case rel =>
          refine ⟨true, ks ++ [T.mk 7 sb nb pb' [t7]], _, _, _, _, rfl, RL10.out, by simp; omega, fun h => (by cases h), fun _ => ?_⟩
          exact HCO.out [T.mk 7 sb nb pb' [t7]] _ _ _ (HIT.out.andThen ((Sees.turn (fun hf => rlistF_no (by have := HNN.out _ (HIT.out.len (beq_iff_eq.1 hf)); have := RL7.out.st.head.1; omega) (no_is hx9 hf)) (Sees.done _ _ _ _)).andThen (HS10.out.andThen (Sees.done _ _ _ _))))
    · have hor : b = true ∨ (b = false ∧ (fc == 0) = false) := by
        cases b
        · exact .inr ⟨rfl, by simpa using hgo⟩
        · exact .inl rfl
      have HSF : Hid (Sees l2 f2 q2 (bodyP paramP l2) ks lc fc qc) := Lib.hid (by
        rcases hor with rfl | ⟨rfl, hfc⟩
        · exact HY.out rfl
        · exact (HN.out rfl).2 hfc ks)
      have g0 : wr.cell? ⟨E.pb, 0, none⟩ = some (.slice (some ⟨E.tb, 0, none⟩) E.ts.length E.cap) := RL.out.st.blk.cell 0
      have g1 : wr.cell? ⟨E.pb, 1, none⟩ = some (.int .i64 ((E.ts.length - lc.length : Nat) : Int)) := RL.out.st.blk.cell 1
      obtain ⟨t0, t1, t2, t3⟩ := RL.out.st.tok
      have hk : E.ts.length - lc.length < E.ts.length := by have := RL.out.st.head.1; have := RL.out.st.le; omega
      have hcap := RL.out.st.capb
      have ix1 : (0 : Int) ≤ ((E.ts.length - lc.length : Nat) : Int) := by omega
      have ix2 : (((E.ts.length - lc.length : Nat) : Int)) < (E.ts.length : Int) := by omega
      obtain ⟨k, hidx⟩ : ∃ k, E.ts.length - lc.length = k := ⟨_, rfl⟩
      rw [hidx] at g1 t3 hk ix1 ix2
      clear hidx
      generalize hP : (hdT lc).place = pl at t3
      have HP := Lib.hid hP
      have RLr := Lib.hid ((RL.out.alloc (.cells (nodeCells (T.mk 8 e0 0 pl []) (.slice none 0 0)).toArray 31)).draws 1)
      have HBr := Lib.hid (show Blk ((wr.alloc (.cells (nodeCells (T.mk 8 e0 0 pl []) (.slice none 0 0)).toArray 31)).drewN 1) wr.heap.size _ 31 from Blk.new wr (nodeCells (T.mk 8 e0 0 pl []) (.slice none 0 0)) 31)
      have HKr := Lib.hid (show KAt 31 ((wr.alloc (.cells (nodeCells (T.mk 8 e0 0 pl []) (.slice none 0 0)).toArray 31)).drewN 1) ks (fun b => (w.heap.size < b ∧ b ≠ w1.heap.size) ∧ b < wr.heap.size) v from ((RL.out.kids.mono (S' := fun b => (w.heap.size < b ∧ b ≠ w1.heap.size) ∧ b < wr.heap.size) (fun b hb hl => ⟨hb, hl⟩)).alloc _).keep (fun b hb _ => ⟨hb, rfl⟩))
      have hzr : w1.heap.size < wr.heap.size := RL.out.lt
      have hzw : w.heap.size < w1.heap.size := RL.out.gt
      clear HN HY hP t0 t1 t2
      rcases hor with rfl | ⟨rfl, hfc⟩
      all_goals
        go_wp2_with fail
        go_region_held3 (fun w' => w'.cell? ⟨E.pb, 0, none⟩ = some (.slice (some ⟨E.tb, 0, none⟩) E.ts.length E.cap) ∧ w'.cell? ⟨E.pb, 1, none⟩ = some (.int .i64 (k : Int)) ∧ w'.cell? ⟨E.tb, k * 4 + 3, none⟩ = some (.int .i64 pl))
          (first | go_keep)
          (fail)
        go_wp2_with fail
        refine (rhas_tot RLr.out.st (bs [45, 62]) keyArrow (by decide)).mono ?_
        rintro e w11 ⟨b11, l11, rfl, hs11, hp11, hc11⟩
        have RL11 := Lib.hid (RLr.out.call hp11 hs11)
        have HB11 := Lib.hid (HBr.out.kp hp11 (by omega))
        have HK11 := Lib.hid (HKr.out.kp hp11 (fun b hb => by omega))
        have hz11 : wr.heap.size < w11.heap.size := HB11.out.lt
        clear hs11 hp11 g0 g1 g3 t3
        rcases hc11 with ⟨rfl, hf11, hi11, rfl⟩ | ⟨rfl, hx11, rfl⟩
        · go_wp2_with fail
          refine (ris_tot RL11.out.st (bs [38]) key38).mono ?_
          rintro e w12 ⟨rfl, hs12, hp12⟩
          have RL12 := Lib.hid (RL11.out.call hp12 hs12)
          have HB12 := Lib.hid (HB11.out.kp hp12 (by omega))
          have HK12 := Lib.hid (HK11.out.kp hp12 (fun b hb => by omega))
          have hz12 : wr.heap.size < w12.heap.size := HB12.out.lt
          clear hs12 hp12
          cases hc12 : (fc == 0 && isT (hdT lc.tail) (bs [38])) with
          | true =>
            have hi12 : isT (hdT lc.tail) (bs [38]) = true := by rw [hf11] at hc12; simpa using hc12
            go_wp2_with fail
            refine (rfail_tot RL12.out.st 20 rfl).mono ?_
            rintro e w13 ⟨f13, q13, rfl, hs13, hp13, hf13, hsee13⟩
            have RL13 := Lib.hid (RL12.out.call hp13 hs13)
            have HB13 := Lib.hid (HB12.out.kp hp13 (by omega))
            have HK13 := Lib.hid (HK12.out.kp hp13 (fun b hb => by omega))
            have hz13 : wr.heap.size < w13.heap.size := HB13.out.lt
            clear hs13 hp13
            go_wp2_with fail
            refine (rmode_tot RL13.out.st).mono ?_
            rintro e wm ⟨tr, vr, lr, fr, qr, rfl, hkr, hnr, hsr, hpr, hseer⟩
            have HSR : Hid (Sees lc fc qc (resultP lc) tr lr fr qr) := Lib.hid (by
              rcases hseer with ⟨e0, _⟩ | ⟨_, rfl, rfl, rfl⟩
              · rw [hf13] at e0; cases e0
              · unfold resultP
                refine Sees.yes hi11 hf11 ?_
                rw [value_ref hi12]
                exact hsee13 tr)
            have RLm0 := Lib.hid (RL13.out.call hpr hsr)
            have HBm0 := Lib.hid (HB13.out.kp hpr (by omega))
            have HKm0 := Lib.hid (HK13.out.kp hpr (fun b hb => by omega))
            have hownr : ∀ x, v.ownBlock = some x → x < wr.heap.size := fun x e => (HKm0.out.choose_spec.2.1 x e).2
            have HVr := Lib.hid (show KAt 31 wm tr.kids (fun b => ((w.heap.size < b ∧ b ≠ w1.heap.size) ∧ v.ownBlock ≠ some b) ∧ b ≠ wr.heap.size) vr from hkr.mono (fun b hb _ => ⟨⟨⟨by omega, by omega⟩, fun e => by have := hownr b e; omega⟩, by omega⟩))
            have RLm := Lib.hid (RLm0.out.rowFar wr.heap.size (by omega) (by omega) HKm0.out (nodeCells tr vr).toArray)
            have hzm : wr.heap.size < wm.heap.size := HBm0.out.lt
            clear hkr hnr hsr hpr hseer
            unfold NodeV
            go_wp2_with ((with_reducible refine at_st 31 (.tmp 10) ?_); refine wpList_store_blk rfl 31 (.tmp 10) (.tmp 75) rfl wr.heap.size (nodeCells tr vr) rfl rfl HBm0.out Tryd.sizeRef rfl (nodeCells_one _ _ HVr.out.one) ?_)
            refine (HBC.out _ _ _ _ RLm.out.st).mono ?_
            rintro e wb ⟨tb, vb, lb, fb, qb, rfl, hkb, hnb, hsb, hpb, hseeb⟩
            have RLb := Lib.hid ((RLm.out).call hpb hsb)
            have HBb := Lib.hid ((HBm0.out.rowSame (nodeCells tr vr)).kp hpb (by omega))
            have HVrb := Lib.hid ((HVr.out.setRow wr.heap.size (nodeCells tr vr).toArray (fun b hb => hb.2)).kp hpb (fun b hb => by omega))
            have hown : ∀ x, v.ownBlock = some x → x < wr.heap.size := fun x e => ((HKm0.out).choose_spec.2.1 x e).2
            have HVb := Lib.hid (show KAt 31 wb tb.kids (fun b => ((w.heap.size < b ∧ b ≠ w1.heap.size) ∧ v.ownBlock ≠ some b) ∧ b < wb.heap.size) vb from hkb.mono (fun b hb hl => ⟨⟨⟨by (try simp only [size_putRow] at hb); omega, by (try simp only [size_putRow] at hb); omega⟩, fun e => by have := hown b e; (try simp only [size_putRow] at hb); omega⟩, hl⟩))
            have HSB := Lib.hid hseeb
            have hzb : wr.heap.size < wb.heap.size := HBb.out.lt
            have n4 : wb.cell? ⟨w1.heap.size, 4, none⟩ = some v := RLb.out.blk.cell 4
            have hzb1 : w1.heap.size < wb.heap.size := by omega
            clear hkb hnb hsb hpb hseeb
            unfold NodeV
            go_wp2_with (first | ((with_reducible refine at_st 31 (.tmp 13) ?_); refine wpList_store_new rfl 31 (.tmp 13) (.tmp 77) rfl (nodeCells tb vb) (old := zeroNodeCells) rfl rfl Tryd.sizeRef rfl (nodeCells_one _ _ HVb.out.one) ?_) | ((with_reducible refine at_ld 31 (.tmp 10) ?_); refine wpList_load_node rfl 31 (.tmp 10) rfl wr.heap.size tr vr rfl (HBb.out.alloc _) Tryd.underlying31 rfl Tryd.sizeRef ?_) | (at_builtin; refine wpList_append_trees rfl (.tmp 79) (.tmp 81) rfl I (ks := ks) (ts := [tr]) (S := fun b => w.heap.size < b ∧ b ≠ w1.heap.size) rfl ((RLb.out.alloc _).alloc _).kids (us := [vr]) (TsAt.single ?c1) ?c2 rfl rfl (by simp) (lit1_eq _ (by simp) _ _ _) ?c3 ?_))
            case c1 => exact TAt.of_kids (((HVrb.out.mono (fun b hb _ => hb.1)).alloc _).alloc _)
            case c2 => simp only [World.size_alloc]; omega
            case c3 => simp; omega
            intro v8 w8 hK8 hg8 hb8
            have hg8s := hg8.size
            simp only [World.size_alloc] at hg8s
            obtain ⟨sa', sn, sc, rfl⟩ := hK8.slice
            obtain ⟨ha1, ha2, ha3, ha4⟩ := ((RLb.out.alloc _).alloc _).after hK8 hg8
            have RL8 := Lib.hid ha1
            have HVb8 := Lib.hid (show KAt 31 w8 tb.kids (fun b => (w.heap.size < b ∧ b ≠ w1.heap.size) ∧ (Value.slice sa' sn sc).ownBlock ≠ some b) vb from ((HVb.out.alloc _).alloc _).keep (fun b hb hl => ⟨⟨hb.1.1, fun e => by
              rcases hb8 with h8 | h8
              · exact hb.1.2 (h8 ▸ e)
              · rw [h8] at e
                simp only [Option.some.injEq] at e
                omega⟩, hg8.block b hl (Ne.symm hb.1.2)⟩))
            have HBt := Lib.hid (((Blk.new wb (nodeCells tb vb) 31).alloc (.cells (nodeCells tr vr).toArray 31)).grown hg8 (fun e => by have := hown _ e.symm; omega))
            clear ha1 hK8 hg8 hb8 n4
            go_wp2_with (first | ((with_reducible refine at_ld 31 (.tmp 13) ?_); refine wpList_load_node rfl 31 (.tmp 13) rfl wb.heap.size tb vb rfl (HBt.out.setOther ⟨w1.heap.size, 4, none⟩ _ (by show _ ≠ w1.heap.size; omega)) Tryd.underlying31 rfl Tryd.sizeRef ?_) | (at_builtin; refine wpList_append_trees rfl (.tmp 85) (.tmp 87) rfl I (ks := ks ++ [tr]) (ts := [tb]) (S := fun b => w.heap.size < b ∧ b ≠ w1.heap.size) rfl (RL8.out.alloc _).kids (us := [vb]) (TsAt.single ?c1) ?c2 rfl rfl (by simp) (lit1_eq _ (by simp) _ _ _) ?c3 ?_))
            case c1 => exact TAt.of_kids ((HVb8.out.setCell ⟨w1.heap.size, 4, none⟩ _ (fun b hb => hb.1.2)).alloc _)
            case c2 => simp only [World.size_alloc, World.size_setCell]; omega
            case c3 => simp; omega
            intro v9 w9 hK9 hg9 hb9
            obtain ⟨sb', sm, se, rfl⟩ := hK9.slice
            obtain ⟨hc1, hc2, hc3, hc4⟩ := (RL8.out.alloc _).after hK9 hg9
            have RL9 := Lib.hid hc1
            clear hc1 hK9 hg9 hb9 ha2 ha3
            obtain ⟨old, hold, hol⟩ := RL9.out.res
            have HOLD := Lib.hid hold
            clear hold
            go_wp2_with (first | ((with_reducible refine at_ld 31 (.tmp 5) ?_); refine wpList_load_node rfl 31 (.tmp 5) rfl w1.heap.size (T.mk 6 sa na p (ks ++ [tr] ++ [tb])) (.slice sb' sm se) rfl RL9.out.blk Tryd.underlying31 rfl Tryd.sizeRef ?_) | ((with_reducible refine at_st 31 (.tmp 4) ?_); refine wpList_store_blk rfl 31 (.tmp 4) (.tmp 90) rfl w.heap.size (nodeCells (T.mk 6 sa na p (ks ++ [tr] ++ [tb])) (.slice sb' sm se)) rfl rfl HOLD.out Tryd.sizeRef (by rw [hol]; rfl) (nodeCells_one _ _ RL9.out.kids.one) ?_))
            exact ret_blk (cs := nodeCells (T.mk 6 sa na p (ks ++ [tr] ++ [tb])) (.slice sb' sm se)) Tryd.results35 rfl HOLD.out Tryd.underlying31 rfl Tryd.sizeRef rfl (RL9.out.tot (by rw [setKids_kids]; simp; omega) (by
              rw [fn_eq]
              show Sees _ _ _ _ (T.mk 6 sa na p (ks ++ [tr, tb])) _ _ _
              exact HS1.out.andThen (HS2.out.andThen (HSF.out.andThen (HSR.out.andThen (HSB.out.andThen (Sees.done _ _ _ _)))))))
          | false =>
            have hi12 : isT (hdT lc.tail) (bs [38]) = false := by rw [hf11] at hc12; simpa using hc12
            go_wp2_with fail
            refine (rmode_tot RL12.out.st).mono ?_
            rintro e wm ⟨tr, vr, lr, fr, qr, rfl, hkr, hnr, hsr, hpr, hseer⟩
            have HSR : Hid (Sees lc fc qc (resultP lc) tr lr fr qr) := Lib.hid (by
              unfold resultP
              refine Sees.yes hi11 hf11 ?_
              rw [value_mode hi12]
              exact hseer)
            have RLm0 := Lib.hid (RL12.out.call hpr hsr)
            have HBm0 := Lib.hid (HB12.out.kp hpr (by omega))
            have HKm0 := Lib.hid (HK12.out.kp hpr (fun b hb => by omega))
            have hownr : ∀ x, v.ownBlock = some x → x < wr.heap.size := fun x e => (HKm0.out.choose_spec.2.1 x e).2
            have HVr := Lib.hid (show KAt 31 wm tr.kids (fun b => ((w.heap.size < b ∧ b ≠ w1.heap.size) ∧ v.ownBlock ≠ some b) ∧ b ≠ wr.heap.size) vr from hkr.mono (fun b hb _ => ⟨⟨⟨by omega, by omega⟩, fun e => by have := hownr b e; omega⟩, by omega⟩))
            have RLm := Lib.hid (RLm0.out.rowFar wr.heap.size (by omega) (by omega) HKm0.out (nodeCells tr vr).toArray)
            have hzm : wr.heap.size < wm.heap.size := HBm0.out.lt
            clear hkr hnr hsr hpr hseer
            unfold NodeV
            go_wp2_with ((with_reducible refine at_st 31 (.tmp 10) ?_); refine wpList_store_blk rfl 31 (.tmp 10) (.tmp 75) rfl wr.heap.size (nodeCells tr vr) rfl rfl HBm0.out Tryd.sizeRef rfl (nodeCells_one _ _ HVr.out.one) ?_)
            refine (HBC.out _ _ _ _ RLm.out.st).mono ?_
            rintro e wb ⟨tb, vb, lb, fb, qb, rfl, hkb, hnb, hsb, hpb, hseeb⟩
            have RLb := Lib.hid ((RLm.out).call hpb hsb)
            have HBb := Lib.hid ((HBm0.out.rowSame (nodeCells tr vr)).kp hpb (by omega))
            have HVrb := Lib.hid ((HVr.out.setRow wr.heap.size (nodeCells tr vr).toArray (fun b hb => hb.2)).kp hpb (fun b hb => by omega))
            have hown : ∀ x, v.ownBlock = some x → x < wr.heap.size := fun x e => ((HKm0.out).choose_spec.2.1 x e).2
            have HVb := Lib.hid (show KAt 31 wb tb.kids (fun b => ((w.heap.size < b ∧ b ≠ w1.heap.size) ∧ v.ownBlock ≠ some b) ∧ b < wb.heap.size) vb from hkb.mono (fun b hb hl => ⟨⟨⟨by (try simp only [size_putRow] at hb); omega, by (try simp only [size_putRow] at hb); omega⟩, fun e => by have := hown b e; (try simp only [size_putRow] at hb); omega⟩, hl⟩))
            have HSB := Lib.hid hseeb
            have hzb : wr.heap.size < wb.heap.size := HBb.out.lt
            have n4 : wb.cell? ⟨w1.heap.size, 4, none⟩ = some v := RLb.out.blk.cell 4
            have hzb1 : w1.heap.size < wb.heap.size := by omega
            clear hkb hnb hsb hpb hseeb
            unfold NodeV
            go_wp2_with (first | ((with_reducible refine at_st 31 (.tmp 13) ?_); refine wpList_store_new rfl 31 (.tmp 13) (.tmp 77) rfl (nodeCells tb vb) (old := zeroNodeCells) rfl rfl Tryd.sizeRef rfl (nodeCells_one _ _ HVb.out.one) ?_) | ((with_reducible refine at_ld 31 (.tmp 10) ?_); refine wpList_load_node rfl 31 (.tmp 10) rfl wr.heap.size tr vr rfl (HBb.out.alloc _) Tryd.underlying31 rfl Tryd.sizeRef ?_) | (at_builtin; refine wpList_append_trees rfl (.tmp 79) (.tmp 81) rfl I (ks := ks) (ts := [tr]) (S := fun b => w.heap.size < b ∧ b ≠ w1.heap.size) rfl ((RLb.out.alloc _).alloc _).kids (us := [vr]) (TsAt.single ?c1) ?c2 rfl rfl (by simp) (lit1_eq _ (by simp) _ _ _) ?c3 ?_))
            case c1 => exact TAt.of_kids (((HVrb.out.mono (fun b hb _ => hb.1)).alloc _).alloc _)
            case c2 => simp only [World.size_alloc]; omega
            case c3 => simp; omega
            intro v8 w8 hK8 hg8 hb8
            have hg8s := hg8.size
            simp only [World.size_alloc] at hg8s
            obtain ⟨sa', sn, sc, rfl⟩ := hK8.slice
            obtain ⟨ha1, ha2, ha3, ha4⟩ := ((RLb.out.alloc _).alloc _).after hK8 hg8
            have RL8 := Lib.hid ha1
            have HVb8 := Lib.hid (show KAt 31 w8 tb.kids (fun b => (w.heap.size < b ∧ b ≠ w1.heap.size) ∧ (Value.slice sa' sn sc).ownBlock ≠ some b) vb from ((HVb.out.alloc _).alloc _).keep (fun b hb hl => ⟨⟨hb.1.1, fun e => by
              rcases hb8 with h8 | h8
              · exact hb.1.2 (h8 ▸ e)
              · rw [h8] at e
                simp only [Option.some.injEq] at e
                omega⟩, hg8.block b hl (Ne.symm hb.1.2)⟩))
            have HBt := Lib.hid (((Blk.new wb (nodeCells tb vb) 31).alloc (.cells (nodeCells tr vr).toArray 31)).grown hg8 (fun e => by have := hown _ e.symm; omega))
            clear ha1 hK8 hg8 hb8 n4
            go_wp2_with (first | ((with_reducible refine at_ld 31 (.tmp 13) ?_); refine wpList_load_node rfl 31 (.tmp 13) rfl wb.heap.size tb vb rfl (HBt.out.setOther ⟨w1.heap.size, 4, none⟩ _ (by show _ ≠ w1.heap.size; omega)) Tryd.underlying31 rfl Tryd.sizeRef ?_) | (at_builtin; refine wpList_append_trees rfl (.tmp 85) (.tmp 87) rfl I (ks := ks ++ [tr]) (ts := [tb]) (S := fun b => w.heap.size < b ∧ b ≠ w1.heap.size) rfl (RL8.out.alloc _).kids (us := [vb]) (TsAt.single ?c1) ?c2 rfl rfl (by simp) (lit1_eq _ (by simp) _ _ _) ?c3 ?_))
            case c1 => exact TAt.of_kids ((HVb8.out.setCell ⟨w1.heap.size, 4, none⟩ _ (fun b hb => hb.1.2)).alloc _)
            case c2 => simp only [World.size_alloc, World.size_setCell]; omega
            case c3 => simp; omega
            intro v9 w9 hK9 hg9 hb9
            obtain ⟨sb', sm, se, rfl⟩ := hK9.slice
            obtain ⟨hc1, hc2, hc3, hc4⟩ := (RL8.out.alloc _).after hK9 hg9
            have RL9 := Lib.hid hc1
            clear hc1 hK9 hg9 hb9 ha2 ha3
            obtain ⟨old, hold, hol⟩ := RL9.out.res
            have HOLD := Lib.hid hold
            clear hold
            go_wp2_with (first | ((with_reducible refine at_ld 31 (.tmp 5) ?_); refine wpList_load_node rfl 31 (.tmp 5) rfl w1.heap.size (T.mk 6 sa na p (ks ++ [tr] ++ [tb])) (.slice sb' sm se) rfl RL9.out.blk Tryd.underlying31 rfl Tryd.sizeRef ?_) | ((with_reducible refine at_st 31 (.tmp 4) ?_); refine wpList_store_blk rfl 31 (.tmp 4) (.tmp 90) rfl w.heap.size (nodeCells (T.mk 6 sa na p (ks ++ [tr] ++ [tb])) (.slice sb' sm se)) rfl rfl HOLD.out Tryd.sizeRef (by rw [hol]; rfl) (nodeCells_one _ _ RL9.out.kids.one) ?_))
            exact ret_blk (cs := nodeCells (T.mk 6 sa na p (ks ++ [tr] ++ [tb])) (.slice sb' sm se)) Tryd.results35 rfl HOLD.out Tryd.underlying31 rfl Tryd.sizeRef rfl (RL9.out.tot (by rw [setKids_kids]; simp; omega) (by
              rw [fn_eq]
              show Sees _ _ _ _ (T.mk 6 sa na p (ks ++ [tr, tb])) _ _ _
              exact HS1.out.andThen (HS2.out.andThen (HSF.out.andThen (HSR.out.andThen (HSB.out.andThen (Sees.done _ _ _ _)))))))
        · have HSR : Hid (Sees l11 fc qc (resultP l11) (T.mk 8 e0 0 pl []) l11 fc qc) := Lib.hid (by
            unfold resultP
            rw [HP.out]
            exact Sees.no hx11 (Sees.done _ _ _ _))
          go_wp2_with fail
          refine (HBC.out _ _ _ _ RL11.out.st).mono ?_
          rintro e wb ⟨tb, vb, lb, fb, qb, rfl, hkb, hnb, hsb, hpb, hseeb⟩
          have RLb := Lib.hid ((RL11.out).call hpb hsb)
          have HBb := Lib.hid ((HB11.out).kp hpb (by omega))
          have HVrb := Lib.hid ((KAt.nil 31 w11 (fun b => ((w.heap.size < b ∧ b ≠ w1.heap.size) ∧ v.ownBlock ≠ some b) ∧ b ≠ wr.heap.size)).kp hpb (fun b hb => by omega))
          have hown : ∀ x, v.ownBlock = some x → x < wr.heap.size := fun x e => ((HK11.out).choose_spec.2.1 x e).2
          have HVb := Lib.hid (show KAt 31 wb tb.kids (fun b => ((w.heap.size < b ∧ b ≠ w1.heap.size) ∧ v.ownBlock ≠ some b) ∧ b < wb.heap.size) vb from hkb.mono (fun b hb hl => ⟨⟨⟨by (try simp only [size_putRow] at hb); omega, by (try simp only [size_putRow] at hb); omega⟩, fun e => by have := hown b e; (try simp only [size_putRow] at hb); omega⟩, hl⟩))
          have HSB := Lib.hid hseeb
          have hzb : wr.heap.size < wb.heap.size := HBb.out.lt
          have n4 : wb.cell? ⟨w1.heap.size, 4, none⟩ = some v := RLb.out.blk.cell 4
          have hzb1 : w1.heap.size < wb.heap.size := by omega
          clear hkb hnb hsb hpb hseeb
          unfold NodeV
          go_wp2_with (first | ((with_reducible refine at_st 31 (.tmp 13) ?_); refine wpList_store_new rfl 31 (.tmp 13) (.tmp 77) rfl (nodeCells tb vb) (old := zeroNodeCells) rfl rfl Tryd.sizeRef rfl (nodeCells_one _ _ HVb.out.one) ?_) | ((with_reducible refine at_ld 31 (.tmp 10) ?_); refine wpList_load_node rfl 31 (.tmp 10) rfl wr.heap.size (T.mk 8 e0 0 pl []) (.slice none 0 0) rfl (HBb.out.alloc _) Tryd.underlying31 rfl Tryd.sizeRef ?_) | (at_builtin; refine wpList_append_trees rfl (.tmp 79) (.tmp 81) rfl I (ks := ks) (ts := [(T.mk 8 e0 0 pl [])]) (S := fun b => w.heap.size < b ∧ b ≠ w1.heap.size) rfl ((RLb.out.alloc _).alloc _).kids (us := [(.slice none 0 0)]) (TsAt.single ?c1) ?c2 rfl rfl (by simp) (lit1_eq _ (by simp) _ _ _) ?c3 ?_))
          case c1 => exact TAt.of_kids (((HVrb.out.mono (fun b hb _ => hb.1)).alloc _).alloc _)
          case c2 => simp only [World.size_alloc]; omega
          case c3 => simp; omega
          intro v8 w8 hK8 hg8 hb8
          have hg8s := hg8.size
          simp only [World.size_alloc] at hg8s
          obtain ⟨sa', sn, sc, rfl⟩ := hK8.slice
          obtain ⟨ha1, ha2, ha3, ha4⟩ := ((RLb.out.alloc _).alloc _).after hK8 hg8
          have RL8 := Lib.hid ha1
          have HVb8 := Lib.hid (show KAt 31 w8 tb.kids (fun b => (w.heap.size < b ∧ b ≠ w1.heap.size) ∧ (Value.slice sa' sn sc).ownBlock ≠ some b) vb from ((HVb.out.alloc _).alloc _).keep (fun b hb hl => ⟨⟨hb.1.1, fun e => by
            rcases hb8 with h8 | h8
            · exact hb.1.2 (h8 ▸ e)
            · rw [h8] at e
              simp only [Option.some.injEq] at e
              omega⟩, hg8.block b hl (Ne.symm hb.1.2)⟩))
          have HBt := Lib.hid (((Blk.new wb (nodeCells tb vb) 31).alloc (.cells (nodeCells (T.mk 8 e0 0 pl []) (.slice none 0 0)).toArray 31)).grown hg8 (fun e => by have := hown _ e.symm; omega))
          clear ha1 hK8 hg8 hb8 n4
          go_wp2_with (first | ((with_reducible refine at_ld 31 (.tmp 13) ?_); refine wpList_load_node rfl 31 (.tmp 13) rfl wb.heap.size tb vb rfl (HBt.out.setOther ⟨w1.heap.size, 4, none⟩ _ (by show _ ≠ w1.heap.size; omega)) Tryd.underlying31 rfl Tryd.sizeRef ?_) | (at_builtin; refine wpList_append_trees rfl (.tmp 85) (.tmp 87) rfl I (ks := ks ++ [(T.mk 8 e0 0 pl [])]) (ts := [tb]) (S := fun b => w.heap.size < b ∧ b ≠ w1.heap.size) rfl (RL8.out.alloc _).kids (us := [vb]) (TsAt.single ?c1) ?c2 rfl rfl (by simp) (lit1_eq _ (by simp) _ _ _) ?c3 ?_))
          case c1 => exact TAt.of_kids ((HVb8.out.setCell ⟨w1.heap.size, 4, none⟩ _ (fun b hb => hb.1.2)).alloc _)
          case c2 => simp only [World.size_alloc, World.size_setCell]; omega
          case c3 => simp; omega
          intro v9 w9 hK9 hg9 hb9
          obtain ⟨sb', sm, se, rfl⟩ := hK9.slice
          obtain ⟨hc1, hc2, hc3, hc4⟩ := (RL8.out.alloc _).after hK9 hg9
          have RL9 := Lib.hid hc1
          clear hc1 hK9 hg9 hb9 ha2 ha3
          obtain ⟨old, hold, hol⟩ := RL9.out.res
          have HOLD := Lib.hid hold
          clear hold
          go_wp2_with (first | ((with_reducible refine at_ld 31 (.tmp 5) ?_); refine wpList_load_node rfl 31 (.tmp 5) rfl w1.heap.size (T.mk 6 sa na p (ks ++ [(T.mk 8 e0 0 pl [])] ++ [tb])) (.slice sb' sm se) rfl RL9.out.blk Tryd.underlying31 rfl Tryd.sizeRef ?_) | ((with_reducible refine at_st 31 (.tmp 4) ?_); refine wpList_store_blk rfl 31 (.tmp 4) (.tmp 90) rfl w.heap.size (nodeCells (T.mk 6 sa na p (ks ++ [(T.mk 8 e0 0 pl [])] ++ [tb])) (.slice sb' sm se)) rfl rfl HOLD.out Tryd.sizeRef (by rw [hol]; rfl) (nodeCells_one _ _ RL9.out.kids.one) ?_))
          exact ret_blk (cs := nodeCells (T.mk 6 sa na p (ks ++ [(T.mk 8 e0 0 pl [])] ++ [tb])) (.slice sb' sm se)) Tryd.results35 rfl HOLD.out Tryd.underlying31 rfl Tryd.sizeRef rfl (RL9.out.tot (by rw [setKids_kids]; simp; omega) (by
            rw [fn_eq]
            show Sees _ _ _ _ (T.mk 6 sa na p (ks ++ [(T.mk 8 e0 0 pl []), tb])) _ _ _
            exact HS1.out.andThen (HS2.out.andThen (HSF.out.andThen (HSR.out.andThen (HSB.out.andThen (Sees.done _ _ _ _)))))))

end Go.Proofs.YtnmpfpnldcgbaaaDoor
