/- The layout in memory: its cell with the list of instructions, what its methods may change, and what stays. Nothing of the program is walked here. The contracts of the layout's methods next and put. -/
import Derived.Test.YtnmpfpnldcgbaaaDoorP25
namespace Go.Proofs.YtnmpfpnldcgbaaaDoor
section
open Go.RowKit

/- What may be changed: the layout's cell, and the row that its list had. -/
structure LKp (pb : Nat) (row : Option Nat) (w w' : World) : Prop where
  os : w'.os = w.os
  tape : w'.tape = w.tape
  output : w'.output = w.output
  size : w.heap.size ≤ w'.heap.size
  block : ∀ k, k < w.heap.size → k ≠ pb → row ≠ some k → w'.heap[k]? = w.heap[k]?

/- A method began at w, where the list was v; now there are these instructions, in V, and the world is W. -/
structure Lay (pb : Nat) (w : World) (v : Value) (is : List Ins) (W : World) (V : Value) : Prop where
  kp : LKp pb v.ownBlock w W
  blk : Blk W pb [V] 93
  ins : InsAt W is (fun b => pb < b) V
  row : V.ownBlock = v.ownBlock ∨ ∀ k, V.ownBlock = some k → w.heap.size ≤ k
  lo : pb < w.heap.size
  vlo : ∀ k, v.ownBlock = some k → pb < k ∧ k < w.heap.size

theorem InsAt.rowLt {w : World} {is : List Ins} {S : Nat → Prop} {v : Value} (h : InsAt w is S v) {k : Nat} (hk : v.ownBlock = some k) : S k ∧ k < w.heap.size := by
  obtain ⟨_, ho, hS, _⟩ := h
  exact ⟨hS k hk, (ho.lt k hk).2⟩

section
variable {pb : Nat} {w W W' : World} {v V V' : Value} {is is' : List Ins}
theorem Lay.start (hb : Blk w pb [v] 93) (hi : InsAt w is (fun b => pb < b) v) : Lay pb w v is w v :=
  ⟨⟨rfl, rfl, rfl, Nat.le_refl _, fun _ _ _ _ => rfl⟩, hb, hi, .inl rfl, hb.lt, fun _ hk => hi.rowLt hk⟩
theorem Lay.trans (h : Lay pb w v is W V) (h' : Lay pb W V is' W' V') : Lay pb w v is' W' V' := by
  refine ⟨⟨h'.kp.os.trans h.kp.os, h'.kp.tape.trans h.kp.tape, h'.kp.output.trans h.kp.output, Nat.le_trans h.kp.size h'.kp.size, fun k hk hn hr => ?_⟩, h'.blk, h'.ins, ?_, h.lo, h.vlo⟩
  · refine (h'.kp.block k (Nat.lt_of_lt_of_le hk h.kp.size) hn fun hV => ?_).trans (h.kp.block k hk hn hr)
    rcases h.row with hq | hq
    · exact hr (hq ▸ hV)
    · have := hq k hV; omega
  · rcases h'.row with hq | hq
    · rcases h.row with hp | hp
      · exact .inl (hq.trans hp)
      · exact .inr fun k hk => hp k (hq ▸ hk)
    · exact .inr fun k hk => Nat.le_trans h.kp.size (hq k hk)
/- Blocks that lie apart stay. -/
theorem Lay.stays (h : Lay pb w v is W V) {g : Nat} {cs : List Value} {t : TypeId} (hb : Blk w g cs t) (hn : g ≠ pb) (hv : v.ownBlock ≠ some g) : Blk W g cs t := (h.kp.block g hb.lt hn hv).trans hb
theorem Lay.kat (h : Lay pb w v is W V) {e : TypeId} {ks : List T} {kv : Value} (hk : KAt e w ks (fun b => b < pb) kv) : KAt e W ks (fun b => b < pb) kv :=
  hk.keep fun b hb hl => ⟨hb, h.kp.block b hl (by omega) fun hq => by have := h.vlo b hq; omega⟩
theorem LKp.of_below {row : Option Nat} (h : Below w.heap.size w W) : LKp pb row w W := ⟨h.os, h.tape, h.output, h.size, fun k hk _ _ => h.block k hk⟩
/- Only what is new was written. -/
theorem Lay.below (h : Lay pb w v is W V) (hb : Below W.heap.size W W') : Lay pb w v is W' V :=
  h.trans ⟨.of_below hb, h.blk.stays hb, h.ins.below hb, .inl rfl, h.blk.lt, fun _ hk => h.ins.rowLt hk⟩
/- A method that first laid out new blocks of its own: the same, seen from its beginning. -/
theorem Lay.back {w0 : World} (h : Lay pb w v is W V) (hb : Below w0.heap.size w0 w) (hlo : pb < w0.heap.size) (hv : ∀ k, v.ownBlock = some k → k < w0.heap.size) : Lay pb w0 v is W V :=
  ⟨⟨h.kp.os.trans hb.os, h.kp.tape.trans hb.tape, h.kp.output.trans hb.output, Nat.le_trans hb.size h.kp.size, fun k hk hn hr => (h.kp.block k (Nat.lt_of_lt_of_le hk hb.size) hn hr).trans (hb.block k hk)⟩,
   h.blk, h.ins, h.row.imp id fun hq k hk => Nat.le_trans hb.size (hq k hk), hlo, fun k hk => ⟨(h.vlo k hk).1, hv k hk⟩⟩
end
/- What an append leaves. -/
theorem Lay.appended {pb : Nat} {w W : World} {v V : Value} {is : List Ins} {j : Ins} (hb : Blk w pb [v] 93) (hi : InsAt w is (fun b => pb < b) v) (hI : InsAt W (is ++ [j]) (fun b => pb < b) V) (hg : w.grownBy W v.ownBlock) (ho : V.ownBlock = v.ownBlock ∨ V.ownBlock = some w.heap.size) :
    Lay pb w v (is ++ [j]) (W.setCell ⟨pb, 0, none⟩ V) V := by
  have hpv : some pb ≠ v.ownBlock := fun e => by have := (hi.rowLt e.symm).1; omega
  have hB : Blk W pb [v] 93 := (hg.block pb hb.lt hpv).trans hb
  refine ⟨⟨hg.os, hg.tape, hg.output, by simpa [World.setCell] using hg.size, fun k hk hn hr => ?_⟩, hB.setSame 0 V, hI.setCell _ _ (fun b hb => by show b ≠ pb; omega), ?_, hb.lt, fun k hk => hi.rowLt hk⟩
  · exact (Below.heap_setCell _ _ _ _ hn).trans (hg.block k hk (Ne.symm hr))
  · rcases ho with h | h
    · exact .inl h
    · exact .inr fun k hk => by rw [h] at hk; cases hk; exact Nat.le_refl _

/- A To is told. -/
theorem InsAt.setTo {w : World} {is : List Ins} {S : Nat → Prop} {a : Addr} {n c k : Nat} {i : Ins} (h : InsAt w is S (.slice (some a) n c)) (hk : is[k]? = some i) (to : Nat) :
    ∃ g, a = ⟨g, 0, none⟩ ∧ (w.cell? ⟨g, k * 11 + 9, none⟩ = some (.int .i64 i.to) ∧ w.frozen? ⟨g, k * 11 + 9, none⟩ = false) ∧ InsAt (w.setCell ⟨g, k * 11 + 9, none⟩ (.int .i64 to)) (is.set k (i.setTo to)) S (.slice (some a) n c) := by
  obtain ⟨vs, ho, hS, ha⟩ := h
  have hlt : k < is.length := (List.getElem?_eq_some_iff.1 hk).1
  obtain ⟨u, hu, _⟩ := ha.get hk
  rcases ho.2 with ⟨hn, _⟩ | ⟨g, cap, cur, hv, hb, hg, hnc, hcm, hcs, htake⟩
  · cases hn
  · simp only [Value.slice.injEq, Option.some.injEq] at hv
    obtain ⟨rfl, rfl, rfl⟩ := hv
    refine ⟨g, rfl, ⟨?_, ho.frozenAt _⟩, vs, ?_, hS, ?_⟩
    · rw [ho.cellAt (k * 11 + 9) (by omega), insRow_get is vs k i u 9 hk hu (by omega)]
      rfl
    · rw [List.length_set, ← insRow_setTo is vs k i to ha.length hk]
      exact (ho.stored (k * 11 + 9) (.int .i64 to)).1
    · exact AllArgs.keep _ (ha.setTo hk) fun b hb _ => ⟨hb, Below.heap_setCell _ _ _ _ (fun e => hb.2 (by rw [e]; rfl))⟩

/- The list with a To told. -/
theorem Lay.setTo {pb : Nat} {w W : World} {v : Value} {is : List Ins} {a : Addr} {n c k : Nat} {i : Ins} (h : Lay pb w v is W (.slice (some a) n c)) (hk : is[k]? = some i) (to : Nat) :
    ∃ g, a = ⟨g, 0, none⟩ ∧ (W.cell? ⟨g, k * 11 + 9, none⟩ = some (.int .i64 i.to) ∧ W.frozen? ⟨g, k * 11 + 9, none⟩ = false) ∧ (pb < g ∧ g < W.heap.size) ∧ Lay pb w v (is.set k (i.setTo to)) (W.setCell ⟨g, k * 11 + 9, none⟩ (.int .i64 to)) (.slice (some a) n c) := by
  obtain ⟨g, rfl, hc, hi⟩ := h.ins.setTo hk to
  have hg := h.ins.rowLt (k := g) rfl
  have hg1 : pb < g := hg.1
  refine ⟨g, rfl, hc, hg, h.trans ⟨⟨rfl, rfl, rfl, by simp [World.setCell], fun b _ _ hr => Below.heap_setCell _ _ _ _ (fun e => hr (by rw [e]; rfl))⟩, h.blk.setOther _ _ (by show pb ≠ g; omega), hi, .inl rfl, h.blk.lt, fun _ hk => h.ins.rowLt hk⟩⟩
end

section
open Go.RowKit

theorem AnyE.beginAt {P : Program} {ops : Array Oper} {Q : Exit → Act → World → Prop} {S : World → Prop} {id : Nat} {a : Act} {w W0 : World} (hw : w.drew = W0) (hm : P.follows .mixedOrders = true) (hS : S W0) (h : S W0 → AnyE P .any ops Q S ops.size (Array.replicate ops.size false) a W0) : (Code.region id ops true).wp P Q a w :=
  AnyE.begin hm (by rw [hw]; exact h hS)
theorem Tryd.insInfo : ∃ i z, RowInfo Tryd.prog 53 43 11 136 i z := by
  have h : (Tryd.prog.info? 43).map (fun i => (i.zero, i.size, i.bytes)) = some (some (.agg (insCells ins0 (.slice none 0 0)).toArray), 11, 136) := by kernel_rfl
  obtain ⟨i0, hi, hz0, hz1, hz2⟩ := info_parts h
  exact ⟨i0, _, Tryd.underlying53, hi, hz0, hz1, hz2, rfl⟩

set_option maxRecDepth 100000 in
set_option maxHeartbeats 2000000 in
theorem next_any {w : World} {pb n c : Nat} {va : Option Addr} (hb : Blk w pb [.slice va n c] 93) :
    Calls Tryd.prog 63 #[.pointer (some ⟨pb, 0, none⟩)] w fun e w' => e = .returned (.int .i64 n) ∧ w' = w := by
  have hp := hb.lt
  have hc0 := hb.cell 0
  simp only [List.getElem?_cons_zero] at hc0
  clear hb
  go_enter Tryd.func63, Tryd.ntmps63
  go_wp2_with fail
  go_ret
  exact ⟨rfl, rfl⟩

set_option maxRecDepth 100000 in
set_option maxHeartbeats 2000000 in
theorem put_any {w : World} {pb : Nat} {v u : Value} {is : List Ins} {j : Ins} (hb : Blk w pb [v] 93) (hi : InsAt w is (fun b => pb < b) v) (hu : ArgsAt w j.args (fun b => pb < b ∧ v.ownBlock ≠ some b) u) (hl : is.length ≤ 90000) :
    Calls Tryd.prog 41 #[.pointer (some ⟨pb, 0, none⟩), InsV j u] w fun e w' => e = .returned (.int .i64 is.length) ∧ ∃ V, Lay pb w v (is ++ [j]) w' V := by
  obtain ⟨i0, z0, I⟩ := Tryd.insInfo
  obtain ⟨va, vc, rfl⟩ := hi.slice
  obtain ⟨ua, un, uc, rfl⟩ := hu.slice
  have hp := hb.lt
  have hv : ∀ k, (Value.slice va is.length vc).ownBlock = some k → k < w.heap.size := fun k hk => (hi.rowLt hk).2
  obtain ⟨W0, hW0, HB, HI, HU, HJ, HW, HZ⟩ : ∃ W0 : World, (w.alloc (.cells (insCells j (.slice ua un uc)).toArray 43)).drew = W0 ∧ Hid (Blk W0 pb [.slice va is.length vc] 93) ∧ Hid (InsAt W0 is (fun b => pb < b) (.slice va is.length vc)) ∧ Hid (ArgsAt W0 j.args (fun b => pb < b ∧ (Value.slice va is.length vc).ownBlock ≠ some b) (.slice ua un uc)) ∧ Hid (Blk W0 w.heap.size (insCells j (.slice ua un uc)) 43) ∧ Hid (Below w.heap.size w W0) ∧ Hid (W0.heap.size = w.heap.size + 1) :=
    ⟨_, rfl, Lib.hid (hb.alloc _).drew, Lib.hid (hi.alloc _).drew, Lib.hid (hu.alloc _).drew, Lib.hid (Blk.new w _ _).drew, Lib.hid ((Below.refl _ _).alloc (Nat.le_refl _) _).drew, Lib.hid (by simp [World.drew])⟩
  have HV := Lib.hid hv
  clear hb hi hu hv
  unfold InsV
  go_enter Tryd.func41, Tryd.ntmps41
  go_wp2_with fail
  refine AnyE.beginAt (S := fun W => Blk W pb [.slice va is.length vc] 93 ∧ Blk W w.heap.size (insCells j (.slice ua un uc)) 43) hW0 (by kernel_rfl) ⟨HB.out, HJ.out⟩ (fun hS => ?_)
  clear hW0
  refine AnyE.take (i := 0) (v := .pointer (some ⟨pb, 0, none⟩)) rfl (by kernel_rfl) (by kernel_rfl) (by kernel_rfl) (by kernel_rfl) (fun _ _ _ h => h) (Or.inl ⟨by rfl, fun W _ => by go_simp⟩) hS ?_
  refine AnyE.take (i := 1) (v := .pointer (some ⟨pb, 0, none⟩)) rfl (by kernel_rfl) (by kernel_rfl) (by kernel_rfl) (by kernel_rfl) (fun _ _ _ h => h) (Or.inl ⟨by rfl, fun W _ => by go_simp⟩) hS ?_
  refine AnyE.take (i := 2) (v := .pointer (some ⟨pb, 0, none⟩)) rfl (by kernel_rfl) (by kernel_rfl) (by kernel_rfl) (by kernel_rfl) (fun _ _ _ h => h) (Or.inl ⟨by rfl, fun W _ => by go_simp⟩) hS ?_
  refine AnyE.take (i := 3) (v := .pointer (some ⟨pb, 0, none⟩)) rfl (by kernel_rfl) (by kernel_rfl) (by kernel_rfl) (by kernel_rfl) (fun _ _ _ h => h) (Or.inl ⟨by rfl, fun W _ => by go_simp⟩) hS ?_
  refine AnyE.take (i := 4) (v := .slice va is.length vc) rfl (by kernel_rfl) (by kernel_rfl) (by kernel_rfl) (by kernel_rfl) (fun _ _ _ h => h) (Or.inl ⟨by rfl, fun W hW => by have hcx : W.cell? ⟨pb, 0, none⟩ = some (.slice va is.length vc) := hW.1.cell 0; go_simp⟩) hS ?_
  refine AnyE.take (i := 5) (v := .agg #[.int .i64 j.op, .int .i64 j.place, .string j.x, .string j.y, .string j.a.name, .int .i64 j.a.num, .string j.b.name, .int .i64 j.b.num, .slice ua un uc, .int .i64 j.to, .bool j.has]) rfl (by kernel_rfl) (by kernel_rfl) (by kernel_rfl) (by kernel_rfl) (fun _ _ _ h => h) (yieldsIf_load_mid (cs := insCells j (.slice ua un uc)) (by rfl) 43 (.tmp 3) rfl (w.heap.size) 0 rfl _ (fun W hW j v hj => by rw [Nat.zero_add, hW.2.cell j]; exact hj) Tryd.underlying43 rfl Tryd.sizeInstr) hS ?_
  refine AnyE.one (i := 6) (by kernel_rfl) rfl (by rfl) (fun K hK => ?_)
  go_simp
  have hne : pb ≠ W0.heap.size := by have := HZ.out; omega
  refine hK.out _ _ (fun _ => ⟨HB.out.alloc _, HJ.out.alloc _⟩) ?_
  clear hK K
  refine AnyE.one (i := 7) (by kernel_rfl) rfl (by rfl) (fun K hK => ?_)
  refine wp_append_ins (.tmp 9) (.tmp 11) rfl I (by omega) rfl (HI.out.alloc _) (HU.out.alloc _) (by show pb < (W0.alloc _).heap.size; have := HZ.out; simp; omega) rfl (ins1_at W0 43 j (.slice ua un uc)) (by omega) ?_
  intro V w4 hK4 hg4 ho4
  have hg5 : W0.grownBy w4 (Value.slice va is.length vc).ownBlock := ⟨hg4.os, hg4.tape, hg4.output, Nat.le_trans (by simp) hg4.size, fun k hk hn => (hg4.block k (by have := HZ.out; simp; omega) hn).trans (Below.heap_alloc W0 _ k hk)⟩
  obtain ⟨sa, sc, hV⟩ := hK4.slice
  rw [show (is ++ [j]).length = is.length + 1 by simp] at hV
  subst hV
  have hpv : some pb ≠ (Value.slice va is.length vc).ownBlock := fun e => by have := (HI.out.rowLt e.symm).1; omega
  have hwv : some w.heap.size ≠ (Value.slice va is.length vc).ownBlock := fun e => by have := HV.out _ e.symm; omega
  have hB4 := HB.out.grown hg5 hpv
  have hJ4 := HJ.out.grown hg5 hwv
  have HL := Lib.hid (Lay.appended (HB.out.alloc (.cells (insCells j (.slice ua un uc)).toArray 43)) (HI.out.alloc _) hK4 hg4 ho4)
  have HL0 := Lib.hid (show Below w.heap.size w (W0.alloc (.cells (insCells j (.slice ua un uc)).toArray 43)) from HW.out.alloc (by have := HZ.out; omega) _)
  have hcx : w4.cell? ⟨pb, 0, none⟩ = some (.slice va is.length vc) := hB4.cell 0
  have hfx := hB4.frozen 0
  have HB4 := Lib.hid hB4
  have HJ4 := Lib.hid hJ4
  clear hK4 hg4 hg5 ho4 hB4 hJ4
  refine hK.out _ _ (fun _ => ⟨HB4.out, HJ4.out⟩) ?_
  clear hK K
  refine AnyE.one (i := 8) (by kernel_rfl) rfl (by rfl) (fun K hK => ?_)
  go_simp
  refine hK.out _ _ (fun _ => ⟨HB4.out, HJ4.out⟩) ?_
  clear hK K
  refine AnyE.one (i := 9) (by kernel_rfl) rfl (by rfl) (fun K hK => ?_)
  go_simp
  refine hK.out _ _ (fun _ => ⟨HB4.out, HJ4.out⟩) ?_
  clear hK K
  refine AnyE.one (i := 10) (by kernel_rfl) rfl (by rfl) (fun K hK => ?_)
  go_simp
  refine hK.out _ _ (fun h => absurd rfl h) ?_
  clear hK K
  refine AnyE.done (by kernel_rfl) ?_ _
  have HE := Lib.hid (HL.out.back HL0.out hp HV.out)
  clear hcx hfx HL0
  go_wp2_with fail
  refine (next_any (n := is.length + 1) (c := sc) (va := sa) HL.out.blk).mono ?_
  rintro e w5 ⟨rfl, rfl⟩
  clear HL
  go_wp2_with fail
  go_ret
  refine ⟨by go_num, _, HE.out⟩
end

end Go.Proofs.YtnmpfpnldcgbaaaDoor
