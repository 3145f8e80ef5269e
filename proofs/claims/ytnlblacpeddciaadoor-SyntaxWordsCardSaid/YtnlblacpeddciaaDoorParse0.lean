/- Towards the contract of syntax.Parse in a world that holds the tables of lex: it answers what the plain reader does, in new memory, and changes nothing that was there. -/
import Derived.Test.YtnlblacpeddciaaDoorSizeW
import Derived.Test.YtnlblacpeddciaaDoorFirst
namespace Go.Proofs.YtnlblacpeddciaaDoor
open Go.RowKit

theorem tokAt_good {s : ByteArray} {k : Nat} {t : Tok} (h : tokAt s k = .ok t) : t.kind ≠ 0 ∧ t.num ≤ 1099511627776 ∧ t.place = k := by
  have hs : ∀ n, signFrom s k n = .ok t → t.kind ≠ 0 ∧ t.num ≤ 1099511627776 ∧ t.place = k := by
    intro n
    induction n with
    | zero =>
      unfold signFrom signEnd
      split
      · intro h; cases h; exact ⟨by simp, by simp, rfl⟩
      · intro h; cases h
    | succ n ih =>
      unfold signFrom
      split
      · intro h; cases h; exact ⟨by simp, by simp, rfl⟩
      · exact ih
  unfold tokAt at h
  split at h
  · unfold wordTok at h
    split at h
    · cases h
    · split at h <;> cases h <;> exact ⟨by simp, by simp, rfl⟩
  · split at h
    · unfold numTok at h
      split at h
      · cases h
      · rename_i hc
        cases h
        exact ⟨by simp, by simp only; omega, rfl⟩
    · exact hs 3 h

/- What lex makes is what the parser asks of its tokens. -/
theorem lexFrom_good {s : ByteArray} (hs : s.size ≤ 16384) : ∀ k, k ≤ s.size → ∀ ts, lexFrom s k = .ok ts → Ends ts ∧ (∀ t ∈ ts, TokOK t) ∧ ts.length + k ≤ s.size + 1 := by
  apply lex_ind (P := fun k r => k ≤ s.size → ∀ ts, r = .ok ts → Ends ts ∧ (∀ t ∈ ts, TokOK t) ∧ ts.length + k ≤ s.size + 1)
  · intro k _ hk ts h
    cases h
    refine ⟨.inl ⟨rfl, rfl, rfl⟩, fun t ht => ?_, by simp; omega⟩
    obtain rfl : t = endTok s := by simpa using ht
    exact ⟨by simp [endTok], hs, by show (0 : Nat) ≤ _; omega⟩
  · intro k hk _ ih _ ts h
    obtain ⟨h1, h2, h3⟩ := ih (by omega) ts h
    exact ⟨h1, h2, by omega⟩
  · intro k hk hb ih _ ts h
    have hg := remark_gt hk hb
    obtain ⟨h1, h2, h3⟩ := ih (endOf_le isRI s k (by omega)) ts h
    exact ⟨h1, h2, by omega⟩
  · intro k e _ _ _ _ _ ts h; cases h
  · intro k t hk _ _ ht ih _ ts h
    have hz := tokAt_size hk ht
    have hg := tokAt_good ht
    cases hr : lexFrom s (k + t.text.size) with
    | error e => rw [hr] at h; cases h
    | ok ts' =>
      rw [hr] at h
      cases h
      obtain ⟨h1, h2, h3⟩ := ih hz.2 ts' hr
      refine ⟨.inr ⟨hg.1, h1⟩, fun u hu => ?_, by simp; omega⟩
      rcases List.mem_cons.1 hu with rfl | hu
      · exact ⟨hg.2.1, by rw [hg.2.2]; omega, by omega⟩
      · exact h2 u hu
theorem lexAll_good {s : ByteArray} {ts : List Tok} (h : lexAll s = .ok ts) : Ends ts ∧ (∀ t ∈ ts, TokOK t) ∧ ts.length ≤ 16385 := by
  unfold lexAll at h
  split at h
  · cases h
  · obtain ⟨h1, h2, h3⟩ := lexFrom_good (by omega) 0 (by omega) ts h
    exact ⟨h1, h2, by omega⟩
theorem lexAll_code {s : ByteArray} {p : Nat} {c : Int} (h : lexAll s = .error (p, c)) : 10 ≤ c ∧ c ≤ 13 := by
  unfold lexAll at h
  split at h
  · cases h; decide
  · obtain ⟨_, _, _, _, h1⟩ := lex_fault 0 h
    have := tokAt_err h1
    omega

def ParsePost (r : T × Nat × Int) (w : World) (e : Ending) (w' : World) : Prop :=
  ∃ kv, e = .returned (.tuple #[NodeV r.1 kv, .int .i64 r.2.1, .int .i64 r.2.2]) ∧ KAt 25 w' r.1.kids (fun b => w.heap.size ≤ b) kv ∧ Below w.heap.size w w'

theorem ret_blk3 {P : Program} {fn : Func} {s u z : Tmp} {ty t : TypeId} (h : fn.results = #[.cell s ty, .tmp u, .tmp z]) {a : Act} {W : World} {g : Nat} {cs : List Value} {d : TypeDesc} {R : Ending → World → Prop} {x y : Value} (hs : a.tmps.getD s undef = .pointer (some ⟨g, 0, none⟩))
    (hb : Blk W g cs t) (hu : P.underlying ty = some d) (hd : d.isRow = true) (hi : (P.info? ty).map (·.size) = some cs.length) (hx : a.tmps.getD u undef = x) (hy : a.tmps.getD z undef = y) (hdf : a.defers = []) (hR : R (.returned (.tuple #[.agg cs.toArray, x, y])) W) :
    bodyPost P fn R .ret a W := by
  refine bodyPost_ret ?_ hdf hR
  have hl := run_loadVar_mid (P := P) W g 0 ty cs d (fun j v hj => by rw [Nat.zero_add, hb.cell j]; exact hj) hu hd hi
  have hs' : a.tmps[s]?.getD undef = .pointer (some ⟨g, 0, none⟩) := by rw [← hs]; simp
  have hx' : a.tmps[u]?.getD undef = x := by rw [← hx]; simp
  have hy' : a.tmps[z]?.getD undef = y := by rw [← hy]; simp
  simp [results, h, hs', asAddr, hl, hx', hy']

theorem below_setRow {B : Nat} {w W : World} (hb : Below B w W) {g : Nat} (hg : B ≤ g) (cs : Array Value) : Below B w (W.setRow g cs) :=
  ⟨hb.os, hb.tape, hb.output, by simpa using hb.size, fun k hk => (setRow_other W g k cs (by omega)).trans (hb.block k hk)⟩

theorem NodeV_cells (t : T) (v : Value) : NodeV t v = .agg (nodeCells t v).toArray := rfl

set_option maxRecDepth 100000 in
set_option maxHeartbeats 2000000 in
theorem parse_lex (s : ByteArray) (w : World) (hs : s.size ≤ maxLen) (ht : Tabs w) {p : Nat} {c : Int} (hr : lexAll s = .error (p, c)) :
    Calls Tryd.prog 10 #[.string s] w (ParsePost (parseB s) w) := by
  have HTA := Lib.hid (ht.alloc (o := .cells zeroNodeCells.toArray 25))
  have HS := Lib.hid hs
  clear ht hs
  go_enter Tryd.func10, Tryd.ntmps10
  go_wp2_with fail
  refine (tokens_any s _ HS.out HTA.out).mono ?_
  intro e w1 hp
  rw [hr] at hp
  obtain ⟨rfl, hb⟩ := hp
  have hcd := lexAll_code hr
  have hne : (c != 0) = true := by rw [bne_iff_ne]; omega
  have HP := Lib.hid (show parseB s = (zeroT, p, c) by unfold parseB; rw [hr])
  have HB := Lib.hid ((Blk.new w zeroNodeCells 25).kp (Kp.of_below (pb := w.heap.size + 1) hb) (by omega))
  have HW := Lib.hid (((Below.refl w.heap.size w).alloc (Nat.le_refl _) _).trans (hb.mono (by simp)))
  clear hb hr hcd
  go_wp2_with ((with_reducible refine at_st 25 (.tmp 2) ?_); refine wpList_store_blk rfl 25 (.tmp 2) (.tmp 18) rfl w.heap.size (nodeCells zeroT (.slice none 0 0)) rfl rfl HB.out Tryd.sizeNode rfl (nodeCells_one _ _ rfl) ?_)
  refine ret_blk3 (cs := nodeCells zeroT (.slice none 0 0)) Tryd.results10 rfl (HB.out.rowSame _) Tryd.underlying25 rfl Tryd.sizeNode rfl rfl rfl ?_
  rw [HP.out]
  exact ⟨.slice none 0 0, rfl, KAt.nil _ _ _, below_setRow HW.out (Nat.le_refl _) _⟩

end Go.Proofs.YtnlblacpeddciaaDoor
