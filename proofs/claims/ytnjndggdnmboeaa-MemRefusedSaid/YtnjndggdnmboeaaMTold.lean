/- The contract of mem.block's told. -/
import Derived.Test.YtnjndggdnmboeaaMRows
import Derived.Test.YtnjndggdnmboeaaMOps4
import Derived.Deep.RegionHeld3
import Derived.Deep.RegionWith
import Derived.Deep.DeepCutAuto
namespace Go.Proofs.Ytnjndggdnmboeaa
open Go.RowKit

theorem cell_keep {W : World} {b i : Nat} {v : Value} (h : W.cell? ⟨b, i, none⟩ = some v) (o : Obj) : (W.alloc o).cell? ⟨b, i, none⟩ = some v := by
  have hb : b < W.heap.size := by
    rcases Nat.lt_or_ge b W.heap.size with h1 | h1
    · exact h1
    · simp [World.cell?, Array.getElem?_eq_none h1] at h
  exact ((bcell ((Below.refl W.heap.size W).alloc (Nat.le_refl _) o)).1 b i hb).trans h
theorem drew_keep {W : World} {b i : Nat} {v : Value} (h : W.cell? ⟨b, i, none⟩ = some v) : W.drew.cell? ⟨b, i, none⟩ = some v := h

theorem recv0 (w : World) (x : Bool) (g n : Nat) : (w.alloc (.cells #[.bool x, .slice (some ⟨g, 0, none⟩) n n] 75)).cell? ⟨w.heap.size, 0, none⟩ = some (.bool x) := (Blk.new w [.bool x, .slice (some ⟨g, 0, none⟩) n n] _).cell 0
theorem recv1 (w : World) (x : Bool) (g n : Nat) : (w.alloc (.cells #[.bool x, .slice (some ⟨g, 0, none⟩) n n] 75)).cell? ⟨w.heap.size, 1, none⟩ = some (.slice (some ⟨g, 0, none⟩) n n) := (Blk.new w [.bool x, .slice (some ⟨g, 0, none⟩) n n] _).cell 1

theorem kbox {X : World} {n : Nat} (hn : X.heap.size = n) {cs : Array Value} {t : TypeId} {i : Nat} {v : Value} (hv : cs[i]? = some v) : (X.alloc (.cells cs t)).drew.cell? ⟨n, i, none⟩ = some v := by
  subst hn
  have h := (Blk.new X cs.toList t).cell i
  rw [Array.toArray_toList, Array.getElem?_toList, hv] at h
  exact h

theorem cell_far {X : World} {b i g o : Nat} {u v : Value} (h : X.cell? ⟨b, i, none⟩ = some v) (hne : b ≠ g) : (X.setCell ⟨g, o, none⟩ u).cell? ⟨b, i, none⟩ = some v :=
  (World.cell?_of_block (a := ⟨b, i, none⟩) (Below.heap_setCell X ⟨g, o, none⟩ u b hne)).trans h
theorem keep8 {X : World} {n go : Nat} (hn : X.heap.size = n) {a1 a2 a3 : Value} (h1 : X.cell? ⟨go, 1, none⟩ = some a1) (h2 : X.cell? ⟨go, 2, none⟩ = some a2) (h3 : X.cell? ⟨go, 3, none⟩ = some a3) {v0 v1 v2 v3 v4 : Value} {t : TypeId} :
    (X.alloc (.cells #[v0, v1, v2, v3, v4] t)).drew.cell? ⟨go, 1, none⟩ = some a1 ∧ (X.alloc (.cells #[v0, v1, v2, v3, v4] t)).drew.cell? ⟨go, 2, none⟩ = some a2 ∧ (X.alloc (.cells #[v0, v1, v2, v3, v4] t)).drew.cell? ⟨go, 3, none⟩ = some a3 ∧
    (X.alloc (.cells #[v0, v1, v2, v3, v4] t)).drew.cell? ⟨n, 0, none⟩ = some v0 ∧ (X.alloc (.cells #[v0, v1, v2, v3, v4] t)).drew.cell? ⟨n, 1, none⟩ = some v1 ∧ (X.alloc (.cells #[v0, v1, v2, v3, v4] t)).drew.cell? ⟨n, 2, none⟩ = some v2 ∧
    (X.alloc (.cells #[v0, v1, v2, v3, v4] t)).drew.cell? ⟨n, 3, none⟩ = some v3 ∧ (X.alloc (.cells #[v0, v1, v2, v3, v4] t)).drew.cell? ⟨n, 4, none⟩ = some v4 :=
  ⟨cell_keep h1 _, cell_keep h2 _, cell_keep h3 _, kbox hn rfl, kbox hn rfl, kbox hn rfl, kbox hn rfl, kbox hn rfl⟩

def oCells (x : Bool) (gc gr gw n : Nat) : List Value := [.bool x, .slice (some ⟨gc, 0, none⟩) n n, .slice (some ⟨gr, 0, none⟩) n n, .slice (some ⟨gw, 0, none⟩) n n]
def zCells : List Value := [.bool false, .slice none 0 0, .slice none 0 0, .slice none 0 0]
/- What told has made while it runs: its result's place, out, and the three rows of which k cells are told. -/
def toldL (w : World) (x : Bool) (g : Nat) (cs : List MC) (go gc gr gw k : Nat) : List Thing :=
  [boxT w.heap.size [.bool x, .slice (some ⟨g, 0, none⟩) cs.length cs.length] 75, boxT (w.heap.size + 1) zCells 55, boxT go (oCells x gc gr gw cs.length) 55, boxT gc (gRow fV (part cs k)) 34, boxT gr (gRow fR (part cs k)) 3, boxT gw (gRow fW (part cs k)) 4]
def ToldCut (w : World) (x : Bool) (g : Nat) (cs : List MC) (v : Value) (W : World) : Prop := ∃ go gc gr gw, v = .pointer (some ⟨go, 0, none⟩) ∧ Sep w W (toldL w x g cs go gc gr gw 0)
abbrev toldBase (w : World) (x : Bool) (g n : Nat) : World := (w.alloc (.cells #[.bool x, .slice (some ⟨g, 0, none⟩) n n] 75)).alloc (.cells #[.bool false, .slice none 0 0, .slice none 0 0, .slice none 0 0] 55)
theorem told_four (w : World) (x : Bool) (g n : Nat) (a1 a2 a3 a4 : List Value) (t1 t2 t3 t4 : TypeId) : Sep w (((((toldBase w x g n).alloc (.cells a1.toArray t1)).alloc (.cells a2.toArray t2)).alloc (.cells a3.toArray t3)).alloc (.cells a4.toArray t4)).drew
    [boxT w.heap.size [.bool x, .slice (some ⟨g, 0, none⟩) n n] 75, boxT (w.heap.size + 1) zCells 55, boxT (w.heap.size + 1 + 1) a1 t1, boxT (w.heap.size + 1 + 1 + 1) a2 t2, boxT (w.heap.size + 1 + 1 + 1 + 1) a3 t3, boxT (w.heap.size + 1 + 1 + 1 + 1 + 1) a4 t4] := by
  have h1 := (Sep.start w).box [.bool x, .slice (some ⟨g, 0, none⟩) n n] 75
  have h2 := h1.box zCells 55
  have h3 := h2.box a1 t1
  have h4 := h3.box a2 t2
  have h5 := h4.box a3 t3
  have h6 := h5.box a4 t4
  simp only [World.size_alloc, List.nil_append, List.cons_append] at h6
  exact h6.quiet ((Below.refl _ _).drew)
theorem told_cut {w W : World} {x : Bool} {g : Nat} {cs : List MC} {v : Value} (go gc gr gw : Nat) {l : List Thing} (hv : v = .pointer (some ⟨go, 0, none⟩)) (h : Sep w W l) (is : List Nat) (hn : is.Nodup) (hl : (toldL w x g cs go gc gr gw 0).map some = is.map (l[·]?)) : ToldCut w x g cs v W :=
  ⟨go, gc, gr, gw, hv, h.pick is hn _ hl⟩
def ToldPost (b : MB) (w : World) (e : Ending) (w' : World) : Prop := ∃ gc gr gw, e = .returned (.agg #[.bool b.live, .slice (some ⟨gc, 0, none⟩) b.cells.length b.cells.length, .slice (some ⟨gr, 0, none⟩) b.cells.length b.cells.length, .slice (some ⟨gw, 0, none⟩) b.cells.length b.cells.length]) ∧
  Sep w w' [boxT gc (gRow fV b.cells) 34, boxT gr (gRow fR b.cells) 3, boxT gw (gRow fW b.cells) 4]

theorem part_facts {w : World} (cs : List MC) (k : Nat) (hk : k < cs.length) {gc gr gw : Nat} (hc : Blk w gc (gRow fV (part cs k)) 34) (hr : Blk w gr (gRow fR (part cs k)) 3) (hw : Blk w gw (gRow fW (part cs k)) 4) :
    w.cell? ⟨gc, k * 3, none⟩ = some (.int .i64 0) ∧ w.cell? ⟨gc, k * 3 + 1, none⟩ = some (.int .i64 0) ∧ w.cell? ⟨gc, k * 3 + 2, none⟩ = some (.int .i64 0) ∧ w.cell? ⟨gr, k, none⟩ = some (.int .i64 0) ∧ w.cell? ⟨gw, k, none⟩ = some (.bool false) := by
  have hp : (part cs k)[k]? = some c0 := by
    unfold part
    rw [List.getElem?_append_right (by simp; omega), List.getElem?_replicate, if_pos (by simp; omega)]
  refine ⟨?_, ?_, ?_, ?_, ?_⟩
  · exact (hc.cell (k * 3 + 0)).trans (gRow_get fV_len hp 0 (by omega))
  · exact (hc.cell (k * 3 + 1)).trans (gRow_get fV_len hp 1 (by omega))
  · exact (hc.cell (k * 3 + 2)).trans (gRow_get fV_len hp 2 (by omega))
  · have := (hr.cell (k * 1 + 0)).trans (gRow_get fR_len hp 0 (by omega))
    rw [Nat.mul_one] at this
    exact this
  · have := (hw.cell (k * 1 + 0)).trans (gRow_get fW_len hp 0 (by omega))
    rw [Nat.mul_one] at this
    exact this

theorem told_step {w wr : World} {x : Bool} {g : Nat} {cs : List MC} {go gc gr gw k : Nat} (h : Sep w wr (toldL w x g cs go gc gr gw k)) {c : MC} (hc : cs[k]? = some c) :
    Sep w (((((wr.setCell ⟨gc, k * 3, none⟩ (.int .i64 c.v.kind)).setCell ⟨gc, k * 3 + 1, none⟩ (.int .i64 c.v.n)).setCell ⟨gc, k * 3 + 2, none⟩ (.int .i64 c.v.block)).setCell ⟨gr, k, none⟩ (.int .i64 c.r)).setCell ⟨gw, k, none⟩ (.bool c.w)) (toldL w x g cs go gc gr gw (k + 1)) := by
  have hk := (List.getElem?_eq_some_iff.1 hc).1
  have hp : k < (part cs k).length := by rw [part_len cs k (by omega)]; exact hk
  have h1 : Sep w _ [boxT w.heap.size [.bool x, .slice (some ⟨g, 0, none⟩) cs.length cs.length] 75, boxT (w.heap.size + 1) zCells 55, boxT go (oCells x gc gr gw cs.length) 55,
      boxT gc ((((gRow fV (part cs k)).set (k * 3) (.int .i64 c.v.kind)).set (k * 3 + 1) (.int .i64 c.v.n)).set (k * 3 + 2) (.int .i64 c.v.block)) 34, boxT gr ((gRow fR (part cs k)).set k (.int .i64 c.r)) 3, boxT gw ((gRow fW (part cs k)).set k (.bool c.w)) 4] :=
    ((((h.put 3 rfl (k * 3) (.int .i64 c.v.kind)).put 3 rfl (k * 3 + 1) (.int .i64 c.v.n)).put 3 rfl (k * 3 + 2) (.int .i64 c.v.block)).put 4 rfl k (.int .i64 c.r)).put 5 rfl k (.bool c.w)
  rw [gRow_set3 fV_len hp c _ _ _ rfl, gRow_set1 fR_len hp c _ rfl, gRow_set1 fW_len hp c _ rfl, part_set hc] at h1
  exact h1
theorem told_end {w wr : World} {x : Bool} {g : Nat} {cs : List MC} {go gc gr gw : Nat} (h : Sep w wr (toldL w x g cs go gc gr gw cs.length)) {a b d e : Value} :
    Sep w ((((wr.setCell ⟨w.heap.size + 1, 0, none⟩ a).setCell ⟨w.heap.size + 1, 1, none⟩ b).setCell ⟨w.heap.size + 1, 2, none⟩ d).setCell ⟨w.heap.size + 1, 3, none⟩ e) [boxT gc (gRow fV cs) 34, boxT gr (gRow fR cs) 3, boxT gw (gRow fW cs) 4] := by
  unfold toldL at h
  rw [part_all] at h
  exact ((((h.put 1 rfl 0 a).put 1 rfl 1 b).put 1 rfl 2 d).put 1 rfl 3 e).pick [3, 4, 5] (by decide) _ rfl

set_option maxRecDepth 100000 in
set_option maxHeartbeats 4000000 in
theorem told_any {w : World} {b : MB} {g : Nat} (hB : Blk w g (cRow b.cells) 82) (hl : b.cells.length ≤ 4096) :
    Calls Try.prog 25 #[.agg #[.bool b.live, .slice (some ⟨g, 0, none⟩) b.cells.length b.cells.length]] w (ToldPost b w) := by
  obtain ⟨x, cs⟩ := b
  simp only at hB hl
  have HB := Lib.hid hB
  have hgl := hB.lt
  clear hB
  have hm1 := run_make_row Try.underlying52 Try.infoValue rfl (by omega) (by omega) fV rfl cs.length (by omega)
  have hm2 := run_make_row Try.underlying53 Try.infoInt rfl (by omega) (by omega) fR rfl cs.length (by omega)
  have hm3 := run_make_row Try.underlying26 Try.infoBool rfl (by omega) (by omega) fW rfl cs.length (by omega)
  go_enter Try.func25, Try.ntmps25
  go_upto_region 1 with fail
  go_cut [3] (fun v W => ToldCut w x g cs v W)
  case first =>
    go_region_held3 (fun w' => w'.cell? ⟨w.heap.size, 0, none⟩ = some (.bool x) ∧ w'.cell? ⟨w.heap.size, 1, none⟩ = some (.slice (some ⟨g, 0, none⟩) cs.length cs.length))
      (first | (constructor <;> (repeat (first | with_reducible exact recv0 w x g cs.length | with_reducible exact recv1 w x g cs.length | with_reducible refine drew_keep ?_ | with_reducible refine cell_keep ?_ _))) | go_keep) (fail)
    all_goals
      go_wp2_with fail
      go_meet
    · exact told_cut (w.heap.size + 1 + 1 + 1 + 1 + 1) (w.heap.size + 1 + 1) (w.heap.size + 1 + 1 + 1) (w.heap.size + 1 + 1 + 1 + 1) rfl (told_four w x g cs.length _ _ _ _ _ _ _ _) [0, 1, 5, 2, 3, 4] (by decide) rfl
    · exact told_cut (w.heap.size + 1 + 1 + 1 + 1) (w.heap.size + 1 + 1) (w.heap.size + 1 + 1 + 1) (w.heap.size + 1 + 1 + 1 + 1 + 1) rfl (told_four w x g cs.length _ _ _ _ _ _ _ _) [0, 1, 4, 2, 3, 5] (by decide) rfl
    · exact told_cut (w.heap.size + 1 + 1 + 1 + 1 + 1) (w.heap.size + 1 + 1) (w.heap.size + 1 + 1 + 1 + 1) (w.heap.size + 1 + 1 + 1) rfl (told_four w x g cs.length _ _ _ _ _ _ _ _) [0, 1, 5, 2, 4, 3] (by decide) rfl
    · exact told_cut (w.heap.size + 1 + 1 + 1 + 1) (w.heap.size + 1 + 1) (w.heap.size + 1 + 1 + 1 + 1 + 1) (w.heap.size + 1 + 1 + 1) rfl (told_four w x g cs.length _ _ _ _ _ _ _ _) [0, 1, 4, 2, 5, 3] (by decide) rfl
    · exact told_cut (w.heap.size + 1 + 1 + 1) (w.heap.size + 1 + 1) (w.heap.size + 1 + 1 + 1 + 1) (w.heap.size + 1 + 1 + 1 + 1 + 1) rfl (told_four w x g cs.length _ _ _ _ _ _ _ _) [0, 1, 3, 2, 4, 5] (by decide) rfl
    · exact told_cut (w.heap.size + 1 + 1 + 1) (w.heap.size + 1 + 1) (w.heap.size + 1 + 1 + 1 + 1 + 1) (w.heap.size + 1 + 1 + 1 + 1) rfl (told_four w x g cs.length _ _ _ _ _ _ _ _) [0, 1, 3, 2, 5, 4] (by decide) rfl
    · exact told_cut (w.heap.size + 1 + 1 + 1 + 1 + 1) (w.heap.size + 1 + 1 + 1) (w.heap.size + 1 + 1) (w.heap.size + 1 + 1 + 1 + 1) rfl (told_four w x g cs.length _ _ _ _ _ _ _ _) [0, 1, 5, 3, 2, 4] (by decide) rfl
    · exact told_cut (w.heap.size + 1 + 1 + 1 + 1) (w.heap.size + 1 + 1 + 1) (w.heap.size + 1 + 1) (w.heap.size + 1 + 1 + 1 + 1 + 1) rfl (told_four w x g cs.length _ _ _ _ _ _ _ _) [0, 1, 4, 3, 2, 5] (by decide) rfl
    · exact told_cut (w.heap.size + 1 + 1 + 1 + 1 + 1) (w.heap.size + 1 + 1 + 1 + 1) (w.heap.size + 1 + 1) (w.heap.size + 1 + 1 + 1) rfl (told_four w x g cs.length _ _ _ _ _ _ _ _) [0, 1, 5, 4, 2, 3] (by decide) rfl
    · exact told_cut (w.heap.size + 1 + 1 + 1 + 1) (w.heap.size + 1 + 1 + 1 + 1 + 1) (w.heap.size + 1 + 1) (w.heap.size + 1 + 1 + 1) rfl (told_four w x g cs.length _ _ _ _ _ _ _ _) [0, 1, 4, 5, 2, 3] (by decide) rfl
    · exact told_cut (w.heap.size + 1 + 1 + 1) (w.heap.size + 1 + 1 + 1 + 1) (w.heap.size + 1 + 1) (w.heap.size + 1 + 1 + 1 + 1 + 1) rfl (told_four w x g cs.length _ _ _ _ _ _ _ _) [0, 1, 3, 4, 2, 5] (by decide) rfl
    · exact told_cut (w.heap.size + 1 + 1 + 1) (w.heap.size + 1 + 1 + 1 + 1 + 1) (w.heap.size + 1 + 1) (w.heap.size + 1 + 1 + 1 + 1) rfl (told_four w x g cs.length _ _ _ _ _ _ _ _) [0, 1, 3, 5, 2, 4] (by decide) rfl
    · exact told_cut (w.heap.size + 1 + 1 + 1 + 1 + 1) (w.heap.size + 1 + 1 + 1) (w.heap.size + 1 + 1 + 1 + 1) (w.heap.size + 1 + 1) rfl (told_four w x g cs.length _ _ _ _ _ _ _ _) [0, 1, 5, 3, 4, 2] (by decide) rfl
    · exact told_cut (w.heap.size + 1 + 1 + 1 + 1) (w.heap.size + 1 + 1 + 1) (w.heap.size + 1 + 1 + 1 + 1 + 1) (w.heap.size + 1 + 1) rfl (told_four w x g cs.length _ _ _ _ _ _ _ _) [0, 1, 4, 3, 5, 2] (by decide) rfl
    · exact told_cut (w.heap.size + 1 + 1 + 1 + 1 + 1) (w.heap.size + 1 + 1 + 1 + 1) (w.heap.size + 1 + 1 + 1) (w.heap.size + 1 + 1) rfl (told_four w x g cs.length _ _ _ _ _ _ _ _) [0, 1, 5, 4, 3, 2] (by decide) rfl
    · exact told_cut (w.heap.size + 1 + 1 + 1 + 1) (w.heap.size + 1 + 1 + 1 + 1 + 1) (w.heap.size + 1 + 1 + 1) (w.heap.size + 1 + 1) rfl (told_four w x g cs.length _ _ _ _ _ _ _ _) [0, 1, 4, 5, 3, 2] (by decide) rfl
    · exact told_cut (w.heap.size + 1 + 1 + 1) (w.heap.size + 1 + 1 + 1 + 1) (w.heap.size + 1 + 1 + 1 + 1 + 1) (w.heap.size + 1 + 1) rfl (told_four w x g cs.length _ _ _ _ _ _ _ _) [0, 1, 3, 4, 5, 2] (by decide) rfl
    · exact told_cut (w.heap.size + 1 + 1 + 1) (w.heap.size + 1 + 1 + 1 + 1 + 1) (w.heap.size + 1 + 1 + 1 + 1) (w.heap.size + 1 + 1) rfl (told_four w x g cs.length _ _ _ _ _ _ _ _) [0, 1, 3, 5, 4, 2] (by decide) rfl
    · exact told_cut (w.heap.size + 1 + 1) (w.heap.size + 1 + 1 + 1) (w.heap.size + 1 + 1 + 1 + 1) (w.heap.size + 1 + 1 + 1 + 1 + 1) rfl (told_four w x g cs.length _ _ _ _ _ _ _ _) [0, 1, 2, 3, 4, 5] (by decide) rfl
    · exact told_cut (w.heap.size + 1 + 1) (w.heap.size + 1 + 1 + 1) (w.heap.size + 1 + 1 + 1 + 1 + 1) (w.heap.size + 1 + 1 + 1 + 1) rfl (told_four w x g cs.length _ _ _ _ _ _ _ _) [0, 1, 2, 3, 5, 4] (by decide) rfl
    · exact told_cut (w.heap.size + 1 + 1) (w.heap.size + 1 + 1 + 1 + 1) (w.heap.size + 1 + 1 + 1) (w.heap.size + 1 + 1 + 1 + 1 + 1) rfl (told_four w x g cs.length _ _ _ _ _ _ _ _) [0, 1, 2, 4, 3, 5] (by decide) rfl
    · exact told_cut (w.heap.size + 1 + 1) (w.heap.size + 1 + 1 + 1 + 1 + 1) (w.heap.size + 1 + 1 + 1) (w.heap.size + 1 + 1 + 1 + 1) rfl (told_four w x g cs.length _ _ _ _ _ _ _ _) [0, 1, 2, 5, 3, 4] (by decide) rfl
    · exact told_cut (w.heap.size + 1 + 1) (w.heap.size + 1 + 1 + 1 + 1) (w.heap.size + 1 + 1 + 1 + 1 + 1) (w.heap.size + 1 + 1 + 1) rfl (told_four w x g cs.length _ _ _ _ _ _ _ _) [0, 1, 2, 4, 5, 3] (by decide) rfl
    · exact told_cut (w.heap.size + 1 + 1) (w.heap.size + 1 + 1 + 1 + 1 + 1) (w.heap.size + 1 + 1 + 1 + 1) (w.heap.size + 1 + 1 + 1) rfl (told_four w x g cs.length _ _ _ _ _ _ _ _) [0, 1, 2, 5, 4, 3] (by decide) rfl
  case rest =>
    obtain ⟨go, gc, gr, gw, rfl, hS⟩ := hcut
    have HS := Lib.hid hS
    have r1 := (hS.blk 0 rfl).cell 1
    have l1 := (hS.blk 0 rfl).lt
    simp only [List.getElem?_cons_zero, List.getElem?_cons_succ] at r1
    clear hm1 hm2 hm3 hS
    go_wp2
    go_loopw [24] (fun i wr => ∃ k : Nat, k ≤ cs.length ∧ i = .int .i64 k ∧ Sep w wr (toldL w x g cs go gc gr gw k)) (fun i _ => cs.length - (intOf i).toNat)
    case atStart => exact ⟨0, by omega, rfl, HS.out⟩
    case round =>
      obtain ⟨k, hk, rfl, hS⟩ := hrel
      have HR := Lib.hid hS
      clear hS
      by_cases hlt : k < cs.length
      · obtain ⟨c, hc⟩ : ∃ c, cs[k]? = some c := ⟨_, List.getElem?_eq_getElem hlt⟩
        obtain ⟨d0, d1, d2, d3, d4⟩ := cell_facts (HB.out.below HR.out.below hgl) hc
        have HC := Lib.hid hc
        have HW := Lib.hid (HR.out.box (cCells c) 82)
        have hgl2 : g < wr.heap.size := Nat.lt_of_lt_of_le hgl HR.out.below.size
        clear hc
        have n1 := HR.out.ne 2 3 (by decide) rfl rfl
        have n2 := HR.out.ne 2 4 (by decide) rfl rfl
        have n3 := HR.out.ne 2 5 (by decide) rfl rfl
        have n4 := HR.out.ne 3 4 (by decide) rfl rfl
        have n5 := HR.out.ne 3 5 (by decide) rfl rfl
        have n6 := HR.out.ne 4 5 (by decide) rfl rfl
        have n1' := n1.symm
        have n2' := n2.symm
        have n3' := n3.symm
        have n4' := n4.symm
        have n5' := n5.symm
        have n6' := n6.symm
        have b2 := HR.out.blk 2 rfl
        have b3 := HR.out.blk 3 rfl
        have b4 := HR.out.blk 4 rfl
        have b5 := HR.out.blk 5 rfl
        have m2 := b2.lt
        have m3 := b3.lt
        have m4 := b4.lt
        have m5 := b5.lt
        have o1 : wr.cell? ⟨go, 1, none⟩ = some (.slice (some ⟨gc, 0, none⟩) cs.length cs.length) := b2.cell 1
        have o2 : wr.cell? ⟨go, 2, none⟩ = some (.slice (some ⟨gr, 0, none⟩) cs.length cs.length) := b2.cell 2
        have o3 : wr.cell? ⟨go, 3, none⟩ = some (.slice (some ⟨gw, 0, none⟩) cs.length cs.length) := b2.cell 3
        obtain ⟨p0, p1, p2, p3, p4⟩ := part_facts cs k hlt b3 b4 b5
        have q0 := b3.frozen (k * 3)
        have q1 := b3.frozen (k * 3 + 1)
        have q2 := b3.frozen (k * 3 + 2)
        have q3 := b4.frozen k
        have q4 := b5.frozen k
        have hk0 : (0 : Int) ≤ (k : Int) := by omega
        have hk1 : (k : Int) < (cs.length : Int) := by omega
        clear b2 b3 b4 b5
        go_wp2
        go_region_held3 (fun w' => w'.cell? ⟨go, 1, none⟩ = some (.slice (some ⟨gc, 0, none⟩) cs.length cs.length) ∧ w'.cell? ⟨go, 2, none⟩ = some (.slice (some ⟨gr, 0, none⟩) cs.length cs.length) ∧ w'.cell? ⟨go, 3, none⟩ = some (.slice (some ⟨gw, 0, none⟩) cs.length cs.length) ∧
          w'.cell? ⟨wr.heap.size, 0, none⟩ = some (.int .i64 c.v.kind) ∧ w'.cell? ⟨wr.heap.size, 1, none⟩ = some (.int .i64 c.v.n) ∧ w'.cell? ⟨wr.heap.size, 2, none⟩ = some (.int .i64 c.v.block) ∧ w'.cell? ⟨wr.heap.size, 3, none⟩ = some (.int .i64 c.r) ∧ w'.cell? ⟨wr.heap.size, 4, none⟩ = some (.bool c.w))
          ((with_reducible refine keep8 (by simp only [World.size_setCell]) ?_ ?_ ?_) <;> (repeat (first | with_reducible assumption | with_reducible refine cell_far ?_ n1 | with_reducible refine cell_far ?_ n2 | with_reducible refine cell_far ?_ n3))) (fail)
        go_wp2
        go_roundw
        case rel => exact ⟨k + 1, by omega, by go_num, (told_step HR.out HC.out).quiet (((Below.refl _ _).alloc (Nat.le_refl _) _).drew)⟩
        case measure => simp [intOf]; omega
      · obtain rfl : k = cs.length := by omega
        have b2 := HR.out.blk 2 rfl
        have b1 := HR.out.blk 1 rfl
        have m1 := b1.lt
        have m2 := b2.lt
        have o0 : wr.cell? ⟨go, 0, none⟩ = some (.bool x) := b2.cell 0
        have o1 : wr.cell? ⟨go, 1, none⟩ = some (.slice (some ⟨gc, 0, none⟩) cs.length cs.length) := b2.cell 1
        have o2 : wr.cell? ⟨go, 2, none⟩ = some (.slice (some ⟨gr, 0, none⟩) cs.length cs.length) := b2.cell 2
        have o3 : wr.cell? ⟨go, 3, none⟩ = some (.slice (some ⟨gw, 0, none⟩) cs.length cs.length) := b2.cell 3
        have y0 : wr.cell? ⟨w.heap.size + 1, 0, none⟩ = some (.bool false) := b1.cell 0
        have y1 : wr.cell? ⟨w.heap.size + 1, 1, none⟩ = some (.slice none 0 0) := b1.cell 1
        have y2 : wr.cell? ⟨w.heap.size + 1, 2, none⟩ = some (.slice none 0 0) := b1.cell 2
        have y3 : wr.cell? ⟨w.heap.size + 1, 3, none⟩ = some (.slice none 0 0) := b1.cell 3
        have q0 := b1.frozen 0
        have q1 := b1.frozen 1
        have q2 := b1.frozen 2
        have q3 := b1.frozen 3
        clear b1 b2
        go_wp2
        refine bodyPost_ret (v := .agg #[.bool x, .slice (some ⟨gc, 0, none⟩) cs.length cs.length, .slice (some ⟨gr, 0, none⟩) cs.length cs.length, .slice (some ⟨gw, 0, none⟩) cs.length cs.length]) (by simp [results, Try.results25, go_sem, y0, y1, y2, y3]) rfl ?_
        exact ⟨gc, gr, gw, rfl, told_end HR.out⟩

end Go.Proofs.Ytnjndggdnmboeaa
