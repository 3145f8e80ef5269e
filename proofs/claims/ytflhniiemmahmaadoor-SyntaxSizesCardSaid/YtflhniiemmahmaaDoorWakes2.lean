/- The contract of lychgatelaw02.wakes in a world that holds the tables of lex: it returns true, and changes nothing that was in memory. -/
import Derived.Test.YtflhniiemmahmaaDoorParse
namespace Go.Proofs.YtflhniiemmahmaaDoor
open Go.RowKit

def s1 : ByteArray := ⟨#[102, 110, 32, 102, 40, 41, 32, 123, 32, 120, 32, 61, 32, 121, 32, 45, 32, 50, 59, 32, 125]⟩
def s2 : ByteArray := ⟨#[102, 110, 32, 102, 40]⟩
def t5 : T := .mk 5 (bs [121]) (-2) 13 []
def t10 : T := .mk 10 (bs [120]) 0 9 [t5]
def t9 : T := .mk 9 e0 0 7 [t10]
def t8 : T := .mk 8 e0 0 7 []
def t6 : T := .mk 6 (bs [102]) 0 0 [t8, t9]
def tree1 : T := .mk 0 e0 0 0 [t6]
theorem parse_s1 : parseB s1 = (tree1, 0, 0) := by kernel_rfl
theorem parse_s2 : parseB s2 = (zeroT, 5, 20) := by kernel_rfl

/- The row of a slice of trees, with the value that stands for each one's kids. -/
theorem KAt.some1 {e : TypeId} {w : World} {ks : List T} {S : Nat → Prop} {v : Value} (h : KAt e w ks S v) {k : Nat} {t : T} (hk : ks[k]? = some t) : ∃ g cap, v = .slice (some ⟨g, 0, none⟩) ks.length cap ∧ g < w.heap.size ∧ ks.length ≤ cap ∧ cap ≤ maxLen ∧
    ∀ k t, ks[k]? = some t → ∃ u, w.rangeAt g (k * 5) (nodeCells t u) ∧ TAt e w t S u := by
  rcases h.form with ⟨_, rfl⟩ | h
  · simp at hk
  · exact h

set_option maxRecDepth 100000 in
set_option maxHeartbeats 2000000 in
theorem wakes_any (w : World) (ht : Tabs w) :
    Calls Tryd.prog 11 #[] w fun e w' => e = .returned (.bool true) ∧ Below w.heap.size w w' := by
  have HT := Lib.hid ht
  go_enter Tryd.func11, Tryd.ntmps11
  go_wp2_with fail
  refine (parse_any s1 w (by unfold maxLen; decide) ht).mono ?_
  rw [parse_s1]
  rintro e w1 ⟨kv, rfl, hk, hb⟩
  have hk1 : KAt 25 w1 [t6] (fun b => w.heap.size ≤ b) kv := hk
  have HK := Lib.hid hk1
  have HB := Lib.hid hb
  have HT1 := Lib.hid (ht.below hb ht.size)
  have HN := Lib.hid (show Blk _ w1.heap.size (nodeCells tree1 kv) 25 from Blk.new w1 _ _)
  have HO := Lib.hid hk1.one
  clear hk hk1 hb ht
  unfold NodeV
  go_wp2_with ((with_reducible refine at_st 25 (.tmp 1) ?_); refine wpList_store_new rfl 25 (.tmp 1) (.tmp 10) rfl (nodeCells tree1 kv) (old := zeroNodeCells) rfl rfl Tryd.sizeNode rfl (nodeCells_one _ _ HO.out) ?_)
  refine (parse_any s2 _ (by unfold maxLen; decide) (HT1.out.alloc)).mono ?_
  rw [parse_s2]
  rintro e w2 ⟨kv2, rfl, hk2, hb2⟩
  have hn2 := HN.out.kp (Kp.of_below (pb := w2.heap.size) hb2) (by have := hb2.size; simp at this; omega)
  have hk2' := (HK.out.alloc (.cells (nodeCells tree1 kv).toArray 25)).below hb2
  have HB2 := Lib.hid ((HB.out.alloc HB.out.size _).trans (hb2.mono (by simp; have := HB.out.size; omega)))
  have HO2 := Lib.hid hk2.one
  obtain ⟨g1, c1, rfl, hg1, hc1, hm1, hget1⟩ := hk2'.some1 (k := 0) rfl
  obtain ⟨u6, r6, hT6⟩ := hget1 0 t6 rfl
  obtain ⟨g2, c2, rfl, hg2, hc2, hm2, hget2⟩ := (show KAt _ w2 [t8, t9] _ u6 from hT6.kat).some1 (k := 0) rfl
  obtain ⟨u9, r9, hT9⟩ := hget2 1 t9 rfl
  obtain ⟨g3, c3, rfl, hg3, hc3, hm3, hget3⟩ := (show KAt _ w2 [t10] _ u9 from hT9.kat).some1 (k := 0) rfl
  obtain ⟨u10, r10, hT10⟩ := hget3 0 t10 rfl
  obtain ⟨g4, c4, rfl, hg4, hc4, hm4, hget4⟩ := (show KAt _ w2 [t5] _ u10 from hT10.kat).some1 (k := 0) rfl
  obtain ⟨u5, r5, hT5⟩ := hget4 0 t5 rfl
  have k0 : w2.cell? ⟨w1.heap.size, 4, none⟩ = some (.slice (some ⟨g1, 0, none⟩) 1 c1) := hn2.cell 4
  have k1 : w2.cell? ⟨g1, 4, none⟩ = some (.slice (some ⟨g2, 0, none⟩) 2 c2) := r6 4 _ rfl
  have k2 : w2.cell? ⟨g2, 9, none⟩ = some (.slice (some ⟨g3, 0, none⟩) 1 c3) := r9 4 _ rfl
  have m0 : w2.cell? ⟨g3, 0, none⟩ = some (.int .i64 10) := r10 0 _ rfl
  have m1 : w2.cell? ⟨g3, 1, none⟩ = some (.string ⟨#[120]⟩) := r10 1 _ rfl
  have m2 : w2.cell? ⟨g3, 2, none⟩ = some (.int .i64 0) := r10 2 _ rfl
  have m3 : w2.cell? ⟨g3, 3, none⟩ = some (.int .i64 9) := r10 3 _ rfl
  have m4 : w2.cell? ⟨g3, 4, none⟩ = some (.slice (some ⟨g4, 0, none⟩) 1 c4) := r10 4 _ rfl
  have q1 : w2.cell? ⟨g4, 1, none⟩ = some (.string ⟨#[121]⟩) := r5 1 _ rfl
  have q2 : w2.cell? ⟨g4, 2, none⟩ = some (.int .i64 (-2)) := r5 2 _ rfl
  have hz2 := hn2.lt
  clear hget1 hget2 hget3 hget4 hT6 hT9 hT10 hT5 r6 r9 r10 r5 hk2' hk2 hb2 HN HK HT HT1
  unfold NodeV
  go_wp2_with ((with_reducible refine at_st 25 (.tmp 4) ?_); refine wpList_store_new rfl 25 (.tmp 4) (.tmp 15) rfl (nodeCells zeroT kv2) (old := zeroNodeCells) rfl rfl Tryd.sizeNode rfl (nodeCells_one _ _ HO2.out) ?_)
  go_ret
  have hz3 := HB2.out.size
  exact ⟨rfl, (HB2.out.alloc HB2.out.size _).alloc (by simp; omega) _⟩

end Go.Proofs.YtflhniiemmahmaaDoor
