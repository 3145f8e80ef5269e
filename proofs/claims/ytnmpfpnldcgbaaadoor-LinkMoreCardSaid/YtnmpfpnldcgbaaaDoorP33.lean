/- The contract of code.Lower on a whole tree. The fields of a code's value, and a list of instructions as a row in memory. Nothing of the program is walked here. -/
import Derived.Test.YtnmpfpnldcgbaaaDoorP32
namespace Go.Proofs.YtnmpfpnldcgbaaaDoor
section
open Go.RowKit

def CodV (c : Cod) (pv lv : Value) : Value := .agg #[.string c.name, pv, lv]
def codCells (c : Cod) (pv lv : Value) : List Value := [.string c.name, pv, lv]
theorem Tryd.sizeCode : (Tryd.prog.info? 55).map (·.size) = some 3 := by kernel_rfl

def strCells (ss : List ByteArray) : List Value := ss.map Value.string
def StrsAt (w : World) (ss : List ByteArray) (S : Nat → Prop) (v : Value) : Prop := w.ownsRow 0 9 1 v ss.length (strCells ss) ∧ ∀ g, v.ownBlock = some g → S g
def CodAt (w : World) (c : Cod) (S : Nat → Prop) (pv lv : Value) : Prop := StrsAt w c.params S pv ∧ InsAt w c.list S lv
def LowPost (w : World) (c : Cod) (e : Ending) (w' : World) : Prop := ∃ pv lv, e = .returned (CodV c pv lv) ∧ CodAt w' c (fun b => w.heap.size ≤ b) pv lv ∧ Below w.heap.size w w'

theorem StrsAt.nil (w : World) (S : Nat → Prop) : StrsAt w [] S (.slice none 0 0) := ⟨World.ownsRow_nil _ _ _ _, fun g h => by simp [Value.ownBlock] at h⟩
theorem StrsAt.keep {w w' : World} {ss : List ByteArray} {S S' : Nat → Prop} {v : Value} (h : StrsAt w ss S v) (hk : ∀ b, S b → b < w.heap.size → S' b ∧ w'.heap[b]? = w.heap[b]?) : StrsAt w' ss S' v :=
  ⟨ownsRow_keep h.1 fun g hg => (hk g (h.2 g hg) (h.1.lt g hg).2).2, fun g hg => (hk g (h.2 g hg) (h.1.lt g hg).2).1⟩
theorem StrsAt.below {w w' : World} {ss : List ByteArray} {S : Nat → Prop} {v : Value} (h : StrsAt w ss S v) (hk : Below w.heap.size w w') : StrsAt w' ss S v := h.keep fun b hb hl => ⟨hb, hk.block b hl⟩
theorem StrsAt.alloc {w : World} {ss : List ByteArray} {S : Nat → Prop} {v : Value} (h : StrsAt w ss S v) (o : Obj) : StrsAt (w.alloc o) ss S v := h.keep fun b hb hl => ⟨hb, Below.heap_alloc w o b hl⟩
theorem StrsAt.setCell {w : World} {ss : List ByteArray} {S : Nat → Prop} {v : Value} (h : StrsAt w ss S v) (a : Addr) (x : Value) (hS : ∀ b, S b → b ≠ a.block) : StrsAt (w.setCell a x) ss S v := h.keep fun b hb _ => ⟨hb, Below.heap_setCell w a x b (hS b hb)⟩
theorem StrsAt.slice {w : World} {ss : List ByteArray} {S : Nat → Prop} {v : Value} (h : StrsAt w ss S v) : ∃ a c, v = .slice a ss.length c := by
  rcases h.1.2 with ⟨rfl, h0⟩ | ⟨g, cap, _, rfl, _⟩
  · exact ⟨_, _, by rw [h0]⟩
  · exact ⟨_, _, rfl⟩

theorem Tryd.strInfo : ∃ i z, RowInfo Tryd.prog 49 9 1 16 i z := by
  have h : (Tryd.prog.info? 9).map (fun i => (i.zero, i.size, i.bytes)) = some (some (.string ⟨#[]⟩), 1, 16) := by kernel_rfl
  obtain ⟨i0, hi, hz0, hz1, hz2⟩ := info_parts h
  exact ⟨i0, _, Tryd.underlying49, hi, hz0, hz1, hz2, rfl⟩

/- append of one string that lies in a new block. -/
theorem wpList_append_str {P : Program} {w : World} {ops : Array Oper} {rest : List Oper} {o : Oper} {a : Act} {Q : Exit → Act → World → Prop} (hgd : o.guard = none) (s x : Operand) {t : TypeId} (ho : o.op = .call { callee := .builtin .append, args := #[s, x], argTypes := #[t, t] })
    {i : TypeInfo} {z : Value} {by' : Nat} (I : RowInfo P t 9 1 by' i z) (hby : by' ≤ 1000) {ss : List ByteArray} {u : ByteArray} {S : Nat → Prop} {v : Value} (hs : a.eval s = v) (hk : StrsAt w ss S v) (hS : S w.heap.size) {ad : Addr} {c : Nat} (hx : a.eval x = .slice (some ad) 1 c) (hnew : w.cell? (ad.add 0) = some (.string u))
    (hb : ss.length + 1 ≤ 100000)
    (h : ∀ v' w', StrsAt w' (ss ++ [u]) S v' → w.grownBy w' v.ownBlock → wpList P ops Q rest (a.put o.dst v') w') : wpList P ops Q (o :: rest) a w := by
  obtain ⟨hown, hSv⟩ := hk
  have hbb : (ss.length + 1) * by' ≤ 140737488355328 := Nat.le_trans (Nat.mul_le_mul hb hby) (by omega)
  have hnews : ∀ j y, ([Value.string u] : List Value)[j]? = some y → w.cell? (ad.add j) = some y := fun j y hj => by
    cases j with
    | zero => simp at hj; subst hj; exact hnew
    | succ j => simp at hj
  have h1 : ∀ y ∈ ([Value.string u] : List Value), y.oneCell' = true := fun y hy => by simp at hy; subst hy; rfl
  obtain ⟨v', w', hr, ho', hg', _⟩ := run_append_own (P := P) w 0 t o.type 9 i z 1 by' I.ht I.hi I.hz I.size I.bytes I.zs (by decide) v ss.length (strCells ss) hown ad 1 c [Value.string u] rfl hnews h1 (by unfold maxLen; omega) hbb (Nat.zero_le _)
  have hbk := append_blockN (ty := o.type) I.ht I.hi I.hz I.size I.bytes hown (by omega) (by rfl) hnews h1 (by unfold maxLen; omega) hbb hr
  refine wpList_plain hgd fun _ hK => ?_
  unfold Oper.wp execOp
  simp only [ho, resolve, invoke, builtin, Sem.run_bind, Sem.run_pure, Result.andThen_ok, List.map_toArray, List.map_cons, List.map_nil, hs, hx]
  rw [hr]
  refine hK _ _ (h v' w' ⟨?_, ?_⟩ hg')
  · rw [List.length_append]
    show w'.ownsRow 0 _ 1 v' (ss.length + 1) (strCells (ss ++ [u]))
    unfold strCells
    rw [List.map_append]
    exact ho'
  · intro g hg
    rcases hbk with h | h
    · exact hSv g (h ▸ hg)
    · rw [h] at hg; cases hg; exact hS

theorem paramsI_snoc (ks : List T) (t : T) : paramsI (ks ++ [t]) = paramsI ks ++ (bif t.kind == 7 then [t.text] else []) := by
  unfold paramsI
  rw [List.filter_append, List.map_append]
  congr 1
  cases h : (t.kind == 7) with
  | true => simp [List.filter, h]
  | false => simp [List.filter, h]
theorem paramsI_len (ks : List T) : (paramsI ks).length ≤ ks.length := by
  unfold paramsI
  rw [List.length_map]
  exact List.length_filter_le _ _

theorem kidOf_at {w : World} {t : T} {S : Nat → Prop} {kv : Value} {i : Int} {n : Nat} (hi : i = (n : Int)) (hk : KAt 25 w t.kids S kv) :
    Calls Tryd.prog 39 #[NodeV t kv, .int .i64 i] w (KidPost w (kidP t n) S) := by
  subst hi
  exact kidOf_any hk n

structure PSt8 (w : World) (nc : List Value) (tx : ByteArray) (ps : List ByteArray) (pv : Value) (W : World) : Prop where
  n : Blk W w.heap.size nc 25
  r : Blk W (w.heap.size + 1) (codCells cod0 (.slice none 0 0) (.slice none 0 0)) 55
  c : Blk W (w.heap.size + 1 + 1) [.string tx, pv, .slice none 0 0] 55
  s : StrsAt W ps (fun b => w.heap.size + 1 + 1 < b) pv
  b : Below w.heap.size w W
theorem PSt8.alloc {w : World} {nc : List Value} {tx : ByteArray} {ps : List ByteArray} {pv : Value} {W : World} (h : PSt8 w nc tx ps pv W) (o : Obj) : PSt8 w nc tx ps pv (W.alloc o) := ⟨h.n.alloc _, h.r.alloc _, h.c.alloc _, h.s.alloc _, h.b.alloc h.b.size _⟩
theorem PSt8.below {w : World} {nc : List Value} {tx : ByteArray} {ps : List ByteArray} {pv : Value} {W W' : World} (h : PSt8 w nc tx ps pv W) (hb : Below W.heap.size W W') : PSt8 w nc tx ps pv W' := ⟨h.n.stays hb, h.r.stays hb, h.c.stays hb, h.s.below hb, h.b.trans (hb.mono h.b.size)⟩
theorem PSt8.put {w : World} {nc : List Value} {tx : ByteArray} {ps ps' : List ByteArray} {pv pv' : Value} {W W' : World} (h : PSt8 w nc tx ps pv W) (hg : W.grownBy W' pv.ownBlock) (hs : StrsAt W' ps' (fun b => w.heap.size + 1 + 1 < b) pv') : PSt8 w nc tx ps' pv' (W'.setCell ⟨w.heap.size + 1 + 1, 1, none⟩ pv') := by
  have hne : ∀ k, k ≤ w.heap.size + 1 + 1 → some k ≠ pv.ownBlock := fun k hk e => by have := h.s.2 k e.symm; omega
  have hb : Below w.heap.size w W' := ⟨hg.os.trans h.b.os, hg.tape.trans h.b.tape, hg.output.trans h.b.output, Nat.le_trans h.b.size hg.size, fun k hk => (hg.block k (Nat.lt_of_lt_of_le hk h.b.size) (hne k (by omega))).trans (h.b.block k hk)⟩
  exact ⟨(h.n.grown hg (hne _ (by omega))).setOther _ _ (by show w.heap.size ≠ w.heap.size + 1 + 1; omega), (h.r.grown hg (hne _ (by omega))).setOther _ _ (by show w.heap.size + 1 ≠ w.heap.size + 1 + 1; omega),
    (h.c.grown hg (hne _ (Nat.le_refl _))).setSame 1 pv', hs.setCell _ _ (fun b hb => by show b ≠ w.heap.size + 1 + 1; omega), hb.setCell (by show w.heap.size ≤ w.heap.size + 1 + 1; omega) _⟩
theorem PSt8.lay {w : World} {nc : List Value} {tx : ByteArray} {ps : List ByteArray} {pv : Value} {W W' : World} {lb : Nat} {is : List Ins} {V : Value} (h : PSt8 w nc tx ps pv W) (hL : Lay lb W (.slice none 0 0) is W' V) (hlb : w.heap.size + 1 + 1 < lb) (hpv : pv.ownBlock ≠ some lb) : PSt8 w nc tx ps pv W' := by
  have hno : ∀ k : Nat, (Value.slice none 0 0).ownBlock ≠ some k := fun k e => by simp [Value.ownBlock] at e
  refine ⟨hL.stays h.n (by omega) (hno _), hL.stays h.r (by omega) (hno _), hL.stays h.c (by omega) (hno _), ?_, ⟨hL.kp.os.trans h.b.os, hL.kp.tape.trans h.b.tape, hL.kp.output.trans h.b.output, Nat.le_trans h.b.size hL.kp.size, fun k hk => (hL.kp.block k (Nat.lt_of_lt_of_le hk h.b.size) (by omega) (hno _)).trans (h.b.block k hk)⟩⟩
  refine ⟨ownsRow_keep h.s.1 fun g hg => hL.kp.block g (h.s.1.lt g hg).2 (fun e => hpv (by rw [hg, e])) (hno _), h.s.2⟩
/- What Lower answers: the list is told, and the whole is handed back. -/
theorem PSt8.done {w : World} {nc : List Value} {tx : ByteArray} {ps : List ByteArray} {pv : Value} {W : World} {lb : Nat} {is : List Ins} {V : Value} (h : PSt8 w nc tx ps pv W) (hI : InsAt W is (fun b => lb < b) V) (hlb : w.heap.size + 1 + 1 < lb) (cs : Array Value) :
    CodAt ((W.setCell ⟨w.heap.size + 1 + 1, 2, none⟩ V).setRow (w.heap.size + 1) cs) ⟨tx, ps, is⟩ (fun b => w.heap.size ≤ b) pv V ∧ Below w.heap.size w ((W.setCell ⟨w.heap.size + 1 + 1, 2, none⟩ V).setRow (w.heap.size + 1) cs) := by
  have hk : ∀ b, w.heap.size + 1 + 1 < b → ((W.setCell ⟨w.heap.size + 1 + 1, 2, none⟩ V).setRow (w.heap.size + 1) cs).heap[b]? = W.heap[b]? := fun b hb => (setRow_other _ _ _ _ (by omega)).trans (Below.heap_setCell _ _ _ _ (by show b ≠ w.heap.size + 1 + 1; omega))
  exact ⟨⟨h.s.keep fun b hb _ => ⟨by omega, hk b hb⟩, hI.keep fun b hb _ => ⟨by omega, hk b (by omega)⟩⟩, Below.row (h.b.setCell (by show w.heap.size ≤ w.heap.size + 1 + 1; omega) _) (by omega) _⟩
def LwRel (w : World) (nc : List Value) (tx : ByteArray) (ks : List T) (g : Nat) (i : Value) (wr : World) : Prop :=
  ∃ (k : Nat) (pv : Value), k ≤ ks.length ∧ ks.length ≤ k + g ∧ i = .int .i64 k ∧ PSt8 w nc tx (paramsI (ks.take k)) pv wr

set_option maxRecDepth 100000 in
set_option maxHeartbeats 2000000 in
theorem lower_not (w : World) (t : T) (kv : Value) (h6 : (t.kind == 6) = false) :
    Calls Tryd.prog 22 #[NodeV t kv] w (LowPost w (lowerI t)) := by
  have hl : lowerI t = cod0 := by unfold lowerI; rw [h6]; rfl
  rw [hl]
  have h6' : (t.kind != 6) = true := by simp at h6 ⊢; exact h6
  have HE := Lib.hid (show Below w.heap.size w ((w.alloc (.cells (nodeCells t kv).toArray 25)).alloc (.cells (codCells cod0 (.slice none 0 0) (.slice none 0 0)).toArray 55)) from ((Below.refl _ _).alloc (Nat.le_refl _) _).alloc (by simp) _)
  have HR := Lib.hid (Blk.new2 w (.cells (nodeCells t kv).toArray 25) (codCells cod0 (.slice none 0 0) (.slice none 0 0)) 55)
  clear hl
  unfold NodeV
  go_enter Tryd.func22, Tryd.ntmps22
  go_wp2_with fail
  exact bodyPost_ret (results_blk (cs := codCells cod0 (.slice none 0 0) (.slice none 0 0)) Tryd.results22 rfl HR.out Tryd.underlying55 rfl Tryd.sizeCode) rfl ⟨_, _, rfl, ⟨StrsAt.nil _ _, InsAt.nil _ _⟩, HE.out⟩

set_option maxRecDepth 100000 in
set_option maxHeartbeats 2000000 in
theorem lower_fn {w : World} {tx : ByteArray} {nm : Int} {p : Nat} {ks : List T} {S : Nat → Prop} {kv : Value} (hk : KAt 25 w ks S kv) (hw : (T.mk 6 tx nm p ks).whole) (hs : sizes ks ≤ 4990) :
    Calls Tryd.prog 22 #[NodeV (.mk 6 tx nm p ks) kv] w (LowPost w (lowerI (.mk 6 tx nm p ks))) := by
  have hkl := len_sizes ks
  rcases hk.form with ⟨rfl, hnil⟩ | ⟨g, cap, rfl, hg, hcap, hcm, _⟩
  · exfalso
    have h1 := (whole_mk.1 hw).1
    rw [hnil] at h1
    generalize hz : ([] : List T) = l at h1
    cases h1 with
    | fn _ _ _ _ => exact absurd (congrArg List.length hz) (by simp)
    | unit e | type e | none e | one e | two e | param e | block e | set e | cond e | loop e | call1 e | load e | call e | leaf e => omega
  · have HK0 := Lib.hid (hk.mono (S' := fun b => b < w.heap.size) fun b _ hl => hl)
    have HGET : Hid (∀ W : World, KAt 25 W ks (fun b => b < w.heap.size) (.slice (some ⟨g, 0, none⟩) ks.length cap) → ∀ (k : Nat) (t : T), ks[k]? = some t → ∃ u, W.rangeAt g (k * 5) (nodeCells t u) ∧ TAt 25 W t (fun b => b < w.heap.size) u) := Lib.hid (by
      intro W hK k t hk
      rcases hK.form with ⟨h1, _⟩ | ⟨g', cap', h1, _, _, _, hget⟩
      · cases h1
      · cases h1
        exact hget k t hk)
    have HCAP := Lib.hid hcap
    have HS := Lib.hid hs
    have HKL := Lib.hid hkl
    obtain ⟨tb, hlast, hb9, hlen2⟩ : ∃ tb, kidP (.mk 6 tx nm p ks) (ks.length - 1) = tb ∧ (tb.kind = 9 ∧ tb.whole ∧ sizes tb.kids + 1 ≤ sizes ks) ∧ 2 ≤ ks.length := by
      obtain ⟨h1, hws⟩ := whole_mk.1 hw
      cases h1 with
      | @fn xs r b _ _ _ h9 =>
        have hsz : sizes (xs ++ [r, b]) = sizes xs + (r.size + (b.size + 0)) := by rw [sizes_append, sizes_cons, sizes_cons, sizes_nil]
        have hbs : b.size = 1 + sizes b.kids := by cases b; rw [size_mk]; rfl
        refine ⟨b, ?_, ⟨h9, wholes_mem hws (by simp), by omega⟩, by simp⟩
        rw [kidP_in (by show (xs ++ [r, b]).length - 1 < (xs ++ [r, b]).length; simp)]
        show (xs ++ [r, b])[(xs ++ [r, b]).length - 1] = b
        simp
      | unit e | type e | none e | one e | two e | param e | block e | set e | cond e | loop e | call1 e | load e | call e | leaf e => omega
    have HLAST := Lib.hid hlast
    have HB9 := Lib.hid hb9
    have HLEN2 := Lib.hid hlen2
    have HW := Lib.hid hw
    clear hlast hb9 hlen2
    obtain ⟨nc, hnc⟩ : ∃ nc, nc = nodeCells (.mk 6 tx nm p ks) (.slice (some ⟨g, 0, none⟩) ks.length cap) := ⟨_, rfl⟩
    have HNC := Lib.hid hnc
    have HST : Hid (LwRel w nc tx ks ks.length (.int .i64 0) (((w.alloc (.cells (nodeCells (.mk 6 tx nm p ks) (.slice (some ⟨g, 0, none⟩) ks.length cap)).toArray 25)).alloc (.cells (codCells cod0 (.slice none 0 0) (.slice none 0 0)).toArray 55)).alloc (.cells [.string tx, .slice none 0 0, .slice none 0 0].toArray 55))) := Lib.hid (by
      refine ⟨0, .slice none 0 0, by omega, by omega, rfl, ?_, ?_, ?_, StrsAt.nil _ _, ?_⟩
      · rw [hnc]; exact ((Blk.new w _ _).alloc _).alloc _
      · exact (Blk.new2 w _ _ _).alloc _
      · have h := Blk.new2 (w.alloc (.cells (nodeCells (.mk 6 tx nm p ks) (.slice (some ⟨g, 0, none⟩) ks.length cap)).toArray 25)) (.cells (codCells cod0 (.slice none 0 0) (.slice none 0 0)).toArray 55) [.string tx, .slice none 0 0, .slice none 0 0] 55
        rw [show (w.alloc (.cells (nodeCells (.mk 6 tx nm p ks) (.slice (some ⟨g, 0, none⟩) ks.length cap)).toArray 25)).heap.size = w.heap.size + 1 by simp] at h
        exact h
      · exact (((Below.refl _ _).alloc (Nat.le_refl _) _).alloc (by simp) _).alloc (by simp; omega) _)
    clear hk hcap hw hs hkl hnc hg
    unfold maxLen at hcm
    obtain ⟨i0, z0, I⟩ := Tryd.strInfo
    unfold NodeV
    simp only [kind_mk, text_mk, num_mk, place_mk]
    go_enter Tryd.func22, Tryd.ntmps22
    go_wp2_with fail
    go_loopg [18] ks.length (fun gh i wr => LwRel w nc tx ks gh i wr)
    case atStart => exact HST.out
    case round =>
      obtain ⟨k, pv, hk, hgk, rfl, hP⟩ := hrel
      clear HST
      have hzw := hP.c.lt
      have HP := Lib.hid hP
      obtain ⟨pa, pn, pc, rfl⟩ : ∃ a n c, pv = .slice a n c := by obtain ⟨a, c, h⟩ := hP.s.slice; exact ⟨a, _, c, h⟩
      by_cases hlt : k < ks.length
      · have hne := List.getElem?_eq_getElem hlt
        obtain ⟨u, hr, hT⟩ := HGET.out wr (HK0.out.keep fun b hb hl => ⟨hb, hP.b.block b hb⟩) k ks[k] hne
        have htk : ks.take (k + 1) = ks.take k ++ [ks[k]] := List.take_succ_eq_append_getElem hlt
        generalize ks[k] = tk at hr hT hne htk
        have HTK := Lib.hid htk
        have HOne := Lib.hid hT.kat.one
        have HBY := Lib.hid (show 16 ≤ 1000 by omega)
        have hcap := HCAP.out
        have HPL := Lib.hid (show (paramsI (ks.take k)).length ≤ 5000 from by have h1 := paramsI_len (ks.take k); have h2 := HKL.out; have h3 := HS.out; simp at h1; omega)
        have hc1 := (hP.c).cell 1
        simp only [List.getElem?_cons_zero, List.getElem?_cons_succ] at hc1
        have hfc := hP.c.frozen 1
        obtain ⟨kk, kt, kn, kp, kks⟩ := tk
        have HR' := Lib.hid (show wr.rangeAt g (k * 5) [.int .i64 kk, .string kt, .int .i64 kn, .int .i64 kp, u] from hr)
        have HPA := Lib.hid (hP.alloc (.cells [.int .i64 kk, .string kt, .int .i64 kn, .int .i64 kp, u].toArray 25))
        have hne1 : w.heap.size + 1 + 1 ≠ wr.heap.size := by omega
        have hne2 : w.heap.size + 1 + 1 ≠ wr.heap.size + 1 := by omega
        clear hr hT hne htk hP
        by_cases h7 : kk = 7
        · subst h7
          go_wp2_with (first
            | ((with_reducible refine at_ld 25 (.tmp 20) ?_); refine wpList_load_mid rfl 25 (.tmp 20) rfl g (k * 5) rfl [.int .i64 7, .string kt, .int .i64 kn, .int .i64 kp, u] _ HR'.out Tryd.underlying25 rfl Tryd.sizeNode ?_)
            | ((with_reducible refine at_st 25 (.tmp 5) ?_); refine wpList_store_new rfl 25 (.tmp 5) (.tmp 21) rfl [.int .i64 7, .string kt, .int .i64 kn, .int .i64 kp, u] (old := zeroNodeCells) rfl rfl Tryd.sizeNode rfl (nodeCells_one (.mk 7 kt kn kp kks) _ HOne.out) ?_)
            | (at_builtin; refine wpList_append_str (u := kt) rfl (.tmp 26) (.tmp 29) rfl I HBY.out rfl (HPA.out.s.alloc (.cells #[.string kt] 9)) ?c2 rfl ?c3 ?c4 ?_))
          case c2 => simp; omega
          case c3 => go_simp
          case c4 => have := HPL.out; omega
          intro v' w' hs' hg'
          obtain ⟨a', n', c', rfl⟩ : ∃ a n c, v' = .slice a n c := by obtain ⟨a, c, h⟩ := hs'.slice; exact ⟨a, _, c, h⟩
          have hne3 : some (w.heap.size + 1 + 1) ≠ (Value.slice pa pn pc).ownBlock := fun e => by have := HP.out.s.2 _ e.symm; omega
          have hcB := (HPA.out.alloc (.cells #[.string kt] 9)).c.grown hg' hne3
          have hcx := hcB.cell 1
          simp only [List.getElem?_cons_zero, List.getElem?_cons_succ] at hcx
          have hfx := hcB.frozen 1
          have HP2 := Lib.hid ((HPA.out.alloc (.cells #[.string kt] 9)).put hg' hs')
          clear hs' hg' hcB hc1 hfc hne3
          go_wp2_with fail
          go_roundg (gk - 1)
          case measure => omega
          case rel =>
            refine ⟨k + 1, .slice a' n' c', by omega, by omega, by go_num, ?_⟩
            rw [HTK.out, paramsI_snoc]
            exact HP2.out
        · have h7' : (kk == 7) = false := by simpa using h7
          go_wp2_with (first
            | ((with_reducible refine at_ld 25 (.tmp 20) ?_); refine wpList_load_mid rfl 25 (.tmp 20) rfl g (k * 5) rfl [.int .i64 kk, .string kt, .int .i64 kn, .int .i64 kp, u] _ HR'.out Tryd.underlying25 rfl Tryd.sizeNode ?_)
            | ((with_reducible refine at_st 25 (.tmp 5) ?_); refine wpList_store_new rfl 25 (.tmp 5) (.tmp 21) rfl [.int .i64 kk, .string kt, .int .i64 kn, .int .i64 kp, u] (old := zeroNodeCells) rfl rfl Tryd.sizeNode rfl (nodeCells_one (.mk kk kt kn kp kks) _ HOne.out) ?_))
          go_roundg (gk - 1)
          case measure => omega
          case rel =>
            refine ⟨k + 1, .slice pa pn pc, by omega, by omega, by go_num, ?_⟩
            rw [HTK.out, paramsI_snoc]
            show PSt8 w nc tx (paramsI (ks.take k) ++ (bif kk == 7 then [kt] else [])) _ _
            rw [h7']
            simpa using HPA.out
      · have hP2 : PSt8 w nc tx (paramsI ks) (.slice pa pn pc) wr := by have := hP; rwa [List.take_of_length_le (by omega)] at this
        have HP2 := Lib.hid hP2
        have HNB := Lib.hid (show Blk wr w.heap.size (nodeCells (.mk 6 tx nm p ks) (.slice (some ⟨g, 0, none⟩) ks.length cap)) 25 by have := hP2.n; rwa [HNC.out] at this)
        have hn4 := HNB.out.cell 4
        simp only [nodeCells, List.getElem?_cons_zero, List.getElem?_cons_succ] at hn4
        have hlw := HNB.out.lt
        clear hP hP2
        go_wp2_with (first
          | ((with_reducible refine at_ld 25 (.tmp 1) ?_); refine wpList_load_blk rfl 25 (.tmp 1) rfl w.heap.size (nodeCells (.mk 6 tx nm p ks) (.slice (some ⟨g, 0, none⟩) ks.length cap)) rfl HNB.out Tryd.underlying25 rfl Tryd.sizeNode ?_))
        refine (kidOf_at (t := .mk 6 tx nm p ks) (n := ks.length - 1) (by have := HKL.out; have := HS.out; have := HLEN2.out; unfold wrap64; omega) (S := fun b => b < w.heap.size) (HK0.out.keep fun b hb hl => ⟨hb, HP2.out.b.block b hb⟩)).mono ?_
        rintro e w1 ⟨ub, rfl, hub, hb1⟩
        have HP3 := Lib.hid (HP2.out.below hb1)
        have hl3 := HP3.out.c.lt
        clear hb1 HP2 HNB hn4 hlw
        rw [HLAST.out] at hub ⊢
        obtain ⟨ba, bn, bc, rfl⟩ := hub.slice
        obtain ⟨w2, hw2, HP4, HLB, HBN, HKB, HZ⟩ : ∃ w2 : World, (w1.alloc (.cells (nodeCells tb (.slice ba bn bc)).toArray 25)).alloc (.cells #[.slice none 0 0] 93) = w2 ∧ Hid (PSt8 w nc tx (paramsI ks) (.slice pa pn pc) w2) ∧ Hid (Blk w2 (w1.heap.size + 1) [.slice none 0 0] 93) ∧ Hid (Blk w2 w1.heap.size (nodeCells tb (.slice ba bn bc)) 25) ∧ Hid (KAt 25 w2 tb.kids (fun b => b < w1.heap.size + 1) (.slice ba bn bc)) ∧ Hid ((Value.slice pa pn pc).ownBlock ≠ some (w1.heap.size + 1)) :=
          ⟨_, rfl, Lib.hid ((HP3.out.alloc _).alloc _), Lib.hid (Blk.new2 w1 _ _ _), Lib.hid ((Blk.new w1 _ _).alloc _), Lib.hid (((hub.alloc _).alloc _).mono fun b hb _ => by omega), Lib.hid fun e => by have := (HP3.out.s.1.lt _ e).2; omega⟩
        clear hub
        unfold NodeV
        go_wp2_with fail
        refine calls_at w2 hw2 ?_
        clear hw2
        refine (block_all 5000 _ _ _ _ tb _ HLB.out (InsAt.nil _ _) HKB.out (block_kids HB9.out.2.1 HB9.out.1).1 (block_kids HB9.out.2.1 HB9.out.1).2 (by have := HB9.out.2.2; have := HS.out; omega) (by have := HB9.out.2.2; have := HS.out; simp; omega)).mono ?_
        rintro e w3 ⟨rfl, V3, hl3'⟩
        have HL3 := Lib.hid hl3'
        have HBN3 := Lib.hid (hl3'.stays HBN.out (by omega) (by simp [Value.ownBlock]))
        have hbn := HBN3.out.cell 3
        simp only [nodeCells, List.getElem?_cons_zero, List.getElem?_cons_succ] at hbn
        have hlt3 := HBN3.out.lt
        have HLN := Lib.hid (blockI_length 5000 tb.kids (by have := HB9.out.2.2; have := HS.out; omega) (block_kids HB9.out.2.1 HB9.out.1).1 (block_kids HB9.out.2.1 HB9.out.1).2 0)
        have HCL := Lib.hid (count_le.counts_le tb.kids)
        clear hl3'
        go_wp2_with fail
        refine (put_any (j := retI tb) HL3.out.blk HL3.out.ins (ArgsAt.nil _ _) (by have h1 : (blockI 5000 0 tb.kids).length = counts tb.kids := HLN.out; have := HCL.out; have := HB9.out.2.2; have := HS.out; simp; omega)).mono ?_
        rintro e w4 ⟨rfl, V4, hl4⟩
        have hL4 := HL3.out.trans hl4
        have HI4 := Lib.hid hL4.ins
        have HP5 := Lib.hid (HP4.out.lay hL4 (by omega) HZ.out)
        obtain ⟨va, vn, vc, rfl⟩ : ∃ a n c, V4 = .slice a n c := by obtain ⟨a, c, h⟩ := hL4.ins.slice; exact ⟨a, _, c, h⟩
        have hll := hL4.blk.cell 0
        have hlt4 := hL4.blk.lt
        have hcl := HP5.out.c.cell 2
        have hfl := HP5.out.c.frozen 2
        have hlc := HP5.out.c.lt
        simp only [List.getElem?_cons_zero, List.getElem?_cons_succ] at hll hcl
        have HC6 := Lib.hid (show Blk (w4.setCell ⟨w.heap.size + 1 + 1, 2, none⟩ (.slice va vn vc)) (w.heap.size + 1 + 1) [.string tx, .slice pa pn pc, .slice va vn vc] 55 from HP5.out.c.setSame 2 _)
        have HR6 := Lib.hid (show Blk (w4.setCell ⟨w.heap.size + 1 + 1, 2, none⟩ (.slice va vn vc)) (w.heap.size + 1) (codCells cod0 (.slice none 0 0) (.slice none 0 0)) 55 from HP5.out.r.setOther _ _ (by show w.heap.size + 1 ≠ w.heap.size + 1 + 1; omega))
        clear hl4 hL4 hbn
        go_wp2_with (first
          | ((with_reducible refine at_ld 55 (.tmp 3) ?_); refine wpList_load_blk rfl 55 (.tmp 3) rfl (w.heap.size + 1 + 1) [.string tx, .slice pa pn pc, .slice va vn vc] rfl HC6.out Tryd.underlying55 rfl Tryd.sizeCode ?_)
          | ((with_reducible refine at_st 55 (.tmp 2) ?_); refine wpList_store_blk rfl 55 (.tmp 2) (.tmp 54) rfl (w.heap.size + 1) [.string tx, .slice pa pn pc, .slice va vn vc] rfl rfl HR6.out Tryd.sizeCode rfl (by intro x hx; simp only [List.mem_cons, List.not_mem_nil, or_false] at hx; rcases hx with rfl | rfl | rfl <;> rfl) ?_))
        have hlow : lowerI (.mk 6 tx nm p ks) = ⟨tx, paramsI ks, blockI 5000 0 tb.kids ++ [retI tb]⟩ := by
          have hle : lastP (.mk 6 tx nm p ks) = tb := by
            unfold lastP
            have : ((T.mk 6 tx nm p ks).kids.isEmpty) = false := by
              have := HLEN2.out
              show ks.isEmpty = false
              cases ks with
              | nil => simp at this
              | cons a l => rfl
            rw [this]
            exact HLAST.out
          show (⟨tx, paramsI ks, blockI 5000 0 (lastP (.mk 6 tx nm p ks)).kids ++ [retI (lastP (.mk 6 tx nm p ks))]⟩ : Cod) = _
          rw [hle]
        rw [hlow]
        have hd := HP5.out.done HI4.out (by omega) [Value.string tx, .slice pa pn pc, .slice va vn vc].toArray
        exact ret_blk (cs := [.string tx, .slice pa pn pc, .slice va vn vc]) Tryd.results22 rfl HR6.out Tryd.underlying55 rfl Tryd.sizeCode rfl ⟨_, _, rfl, hd.1, hd.2⟩

theorem lower_any {w : World} {t : T} {S : Nat → Prop} {kv : Value} (hk : KAt 25 w t.kids S kv) (hw : t.whole) (hs : t.size ≤ 4990) :
    Calls Tryd.prog 22 #[NodeV t kv] w (LowPost w (lowerI t)) := by
  cases h6 : (t.kind == 6) with
  | false => exact lower_not w t kv h6
  | true =>
    cases t with
    | mk k tx nm p ks =>
      have e : k = 6 := by rw [kind_mk] at h6; simpa using h6
      subst e
      rw [size_mk] at hs
      exact lower_fn hk hw (by omega)
end

section
open Go.RowKit

set_option maxRecDepth 100000 in
theorem fldCod0 (a b c : Value) (w : World) : (Instr.field 55 (.agg #[a, b, c]) 0).run Tryd.prog w = .ok a w := run_field_agg Tryd.underlying55 rfl (notAgg Tryd.underlying9 rfl) rfl w
set_option maxRecDepth 100000 in
theorem fldCod1 (a b c : Value) (w : World) : (Instr.field 55 (.agg #[a, b, c]) 1).run Tryd.prog w = .ok b w := run_field_agg Tryd.underlying55 rfl (notAgg Tryd.underlying49 rfl) rfl w
set_option maxRecDepth 100000 in
theorem fldCod2 (a b c : Value) (w : World) : (Instr.field 55 (.agg #[a, b, c]) 2).run Tryd.prog w = .ok c w := run_field_agg Tryd.underlying55 rfl (notAgg Tryd.underlying53 rfl) rfl w

theorem InsAt.form {w : World} {is : List Ins} {S : Nat → Prop} {v : Value} (h : InsAt w is S v) : (v = .slice none 0 0 ∧ is = []) ∨ ∃ g cap, v = .slice (some ⟨g, 0, none⟩) is.length cap ∧ g < w.heap.size ∧ is.length ≤ cap ∧ cap ≤ maxLen ∧
    ∀ k i, is[k]? = some i → ∃ u, w.rangeAt g (k * 11) (insCells i u) ∧ ArgsAt w i.args S u := by
  obtain ⟨vs, ho, hS, hts⟩ := h
  have ho' := ho
  rcases ho.2 with ⟨rfl, h0⟩ | ⟨g, cap, cur, rfl, hb, hg, hnc, hcm, hcs, htake⟩
  · exact .inl ⟨rfl, List.eq_nil_of_length_eq_zero h0⟩
  · refine .inr ⟨g, cap, rfl, (Array.getElem?_eq_some_iff.1 hg).1, hnc, hcm, fun k i hk => ?_⟩
    obtain ⟨u, hu, ht⟩ := hts.get hk
    refine ⟨u, fun j x hj => ?_, ht.mono fun b hb _ => hb.1⟩
    have hj5 : j < 11 := by have := (List.getElem?_eq_some_iff.1 hj).1; simpa [insCells] using this
    have hlt : k < is.length := (List.getElem?_eq_some_iff.1 hk).1
    rw [ho'.cellAt (k * 11 + j) (by omega), insRow_get is vs k i u j hk hu hj5]
    exact hj
end

end Go.Proofs.YtnmpfpnldcgbaaaDoor
