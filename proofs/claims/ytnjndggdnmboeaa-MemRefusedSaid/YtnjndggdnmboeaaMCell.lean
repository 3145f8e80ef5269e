/- The contracts of mem.cell's methods and of mem.needed. -/
import Derived.Test.YtnjndggdnmboeaaMWord
namespace Go.Proofs.Ytnjndggdnmboeaa
open Go.RowKit


/- What a method of a cell comes to: the cell j of the row g is another one. -/
def CPost (g j : Nat) (cs : List MC) (c' : MC) (val : Value) (w : World) (e : Ending) (w' : World) : Prop :=
  e = .returned val ∧ Blk w' g (cRow (cs.set j c')) 82 ∧ Ch (· = g) w w'

theorem set_same {α : Type} {l : List α} {j : Nat} {a : α} (h : l[j]? = some a) : l.set j a = l := by
  obtain ⟨hj, e⟩ := List.getElem?_eq_some_iff.1 h
  rw [← e]
  exact List.set_getElem_self hj

theorem CPost.keep {g j : Nat} {cs : List MC} {c : MC} {val : Value} {w w' : World} (hb : Blk w g (cRow cs) 82) (hc : cs[j]? = some c) (h : Below w.heap.size w w') : CPost g j cs c val w (.returned val) w' :=
  ⟨rfl, by rw [set_same hc]; exact hb.below h hb.lt, Ch.of_below h⟩

set_option maxHeartbeats 1000000 in
theorem busy_any (c : MC) (w : World) : Calls Try.prog 32 #[.agg #[.int .i64 c.v.kind, .int .i64 c.v.n, .int .i64 c.v.block, .int .i64 c.r, .bool c.w]] w fun e w' => e = .returned (.bool (busyC c)) ∧ Below w.heap.size w w' := by
  obtain ⟨⟨k, n, b⟩, r, wr⟩ := c
  unfold busyC
  simp only
  by_cases h : 0 < r
  · have hd : decide (0 < r) = true := by simpa using h
    have hd' : (decide (0 < r) || wr) = true := by simp [h]
    have H := Lib.hid hd'
    clear hd'
    go_enter Try.func32, Try.ntmps32
    go_wp2
    go_ret
    exact ⟨ret_bool (by first | rfl | exact H.out.symm), (Below.refl _ _).alloc (Nat.le_refl _) _⟩
  · have hd : decide (0 < r) = false := by simpa using h
    have hd' : (decide (0 < r) || wr) = wr := by simp [h]
    have H := Lib.hid hd'
    clear hd'
    go_enter Try.func32, Try.ntmps32
    go_wp2
    go_ret
    exact ⟨ret_bool (by first | rfl | exact H.out.symm), (Below.refl _ _).alloc (Nat.le_refl _) _⟩

theorem cell_facts {w : World} {g j : Nat} {cs : List MC} {c : MC} (hb : Blk w g (cRow cs) 82) (hc : cs[j]? = some c) :
    w.cell? ⟨g, j * 5, none⟩ = some (.int .i64 c.v.kind) ∧ w.cell? ⟨g, j * 5 + 1, none⟩ = some (.int .i64 c.v.n) ∧ w.cell? ⟨g, j * 5 + 2, none⟩ = some (.int .i64 c.v.block) ∧ w.cell? ⟨g, j * 5 + 3, none⟩ = some (.int .i64 c.r) ∧ w.cell? ⟨g, j * 5 + 4, none⟩ = some (.bool c.w) := by
  refine ⟨?_, ?_, ?_, ?_, ?_⟩
  · have := (hb.cell (j * 5 + 0)).trans (cRow_get hc 0 (by omega)); exact this
  · exact (hb.cell (j * 5 + 1)).trans (cRow_get hc 1 (by omega))
  · exact (hb.cell (j * 5 + 2)).trans (cRow_get hc 2 (by omega))
  · exact (hb.cell (j * 5 + 3)).trans (cRow_get hc 3 (by omega))
  · exact (hb.cell (j * 5 + 4)).trans (cRow_get hc 4 (by omega))

def beginReadW (z : Bool) : Int := if z = true then 6 else 0
def beginReadC (z : Bool) (c : MC) : MC := if z = true then c else ⟨c.v, c.r + 1, c.w⟩
set_option maxHeartbeats 1000000 in
theorem beginRead_any {w : World} {g j : Nat} {cs : List MC} {c : MC} (hb : Blk w g (cRow cs) 82) (hc : cs[j]? = some c) (h0 : 0 ≤ c.r) (h1 : c.r ≤ 1000000) :
    Calls Try.prog 34 #[.pointer (some ⟨g, j * 5, none⟩)] w (CPost g j cs (beginReadC c.w c) (.int .i64 (beginReadW c.w)) w) := by
  obtain ⟨f0, f1, f2, f3, f4⟩ := cell_facts hb hc
  have z3 := hb.frozen (j * 5 + 3)
  have hlt := hb.lt
  have HB := Lib.hid hb
  have HC := Lib.hid hc
  clear hb hc f0 f1 f2
  obtain ⟨v, r, wr⟩ := c
  simp only at h0 h1 f3 f4
  cases wr
  · go_enter Try.func34, Try.ntmps34
    go_wp2
    go_ret
    refine ⟨rfl, ?_, (Ch.refl _ _).set _ (.inl (show g = g from rfl)) _⟩
    have := HB.out.put (j * 5 + 3) (.int .i64 (r + 1))
    rw [cRow_set HC.out 3 (by omega) _ ⟨v, r + 1, false⟩ rfl] at this
    exact this
  · go_enter Try.func34, Try.ntmps34
    go_wp2
    go_ret
    exact CPost.keep HB.out HC.out (Below.refl _ _)

def beginWriteW (z : Bool) : Int := if z = true then 6 else 0
def beginWriteC (z : Bool) (c : MC) : MC := if z = true then c else ⟨c.v, c.r, true⟩
set_option maxHeartbeats 1000000 in
theorem beginWrite_any {w : World} {g j : Nat} {cs : List MC} {c : MC} (hb : Blk w g (cRow cs) 82) (hc : cs[j]? = some c) :
    Calls Try.prog 33 #[.pointer (some ⟨g, j * 5, none⟩)] w (CPost g j cs (beginWriteC (busyC c) c) (.int .i64 (beginWriteW (busyC c))) w) := by
  obtain ⟨f0, f1, f2, f3, f4⟩ := cell_facts hb hc
  have HB := Lib.hid hb
  have HC := Lib.hid hc
  have hlt := hb.lt
  clear hb hc
  have hbz := busy_any c
  generalize hz : busyC c = z at *
  have HZ := Lib.hid hz
  clear hz
  go_enter Try.func33, Try.ntmps33
  go_wp2_with fail
  ((with_reducible refine (hbz w).mono ?_); rintro e w1 ⟨rfl, hb1⟩)
  have HB1 := Lib.hid (HB.out.below hb1 hlt)
  have HL := Lib.hid hb1
  have z4 := HB1.out.frozen (j * 5 + 4)
  have f4' := (bcell hb1).1 g (j * 5 + 4) hlt
  rw [f4] at f4'
  have hlt1 := HB1.out.lt
  clear hb1 hbz f0 f1 f2 f3 f4
  cases z
  · go_wp2
    go_ret
    refine ⟨rfl, ?_, (Ch.of_below HL.out).set _ (.inl (show g = g from rfl)) _⟩
    have := HB1.out.put (j * 5 + 4) (.bool true)
    rw [cRow_set HC.out 4 (by omega) _ ⟨c.v, c.r, true⟩ rfl] at this
    exact this
  · go_wp2
    go_ret
    exact CPost.keep HB.out HC.out HL.out

def endReadW (c : MC) : Int := if c.r = 0 then 6 else if c.v.kind = 0 then 4 else 0
def endReadC (c : MC) : MC := if c.r = 0 then c else ⟨c.v, c.r - 1, c.w⟩
def endReadV (c : MC) : MV := if endReadW c = 0 then c.v else v0
set_option maxHeartbeats 2000000 in
theorem endRead_any {w : World} {g j : Nat} {cs : List MC} {c : MC} (hb : Blk w g (cRow cs) 82) (hc : cs[j]? = some c) (h0 : 0 ≤ c.r) (h1 : c.r ≤ 1000000) :
    Calls Try.prog 28 #[.pointer (some ⟨g, j * 5, none⟩)] w (CPost g j cs (endReadC c) (.tuple #[vV (endReadV c), .int .i64 (endReadW c)]) w) := by
  obtain ⟨f0, f1, f2, f3, f4⟩ := cell_facts hb hc
  have z3 := hb.frozen (j * 5 + 3)
  have hlt := hb.lt
  have HB := Lib.hid hb
  have HC := Lib.hid hc
  clear hb hc f4
  obtain ⟨⟨k, n, b⟩, r, wr⟩ := c
  simp only at h0 h1 f0 f1 f2 f3
  unfold endReadV endReadW endReadC
  simp only
  by_cases hr : r = 0
  · subst hr
    go_enter Try.func28, Try.ntmps28
    go_wp2
    refine bodyPost_ret (v := .tuple #[vV v0, .int .i64 6]) (by simp [results, Try.results28, go_sem, vV, v0]) rfl ?_
    exact CPost.keep HB.out HC.out ((Below.refl _ _).alloc (Nat.le_refl _) _)
  · have hd : (r == 0) = false := by simpa using hr
    have hr1 : 1 ≤ r := by omega
    rw [if_neg hr, if_neg hr]
    have HR := Lib.hid hr
    clear hr
    by_cases hk : k = 0
    · subst hk
      go_enter Try.func28, Try.ntmps28
      go_wp2
      refine bodyPost_ret (v := .tuple #[vV v0, .int .i64 4]) (by simp [results, Try.results28, go_sem, vV, v0]) rfl ?_
      have := HB.out.put (j * 5 + 3) (.int .i64 (r - 1))
      rw [cRow_set HC.out 3 (by omega) _ ⟨⟨0, n, b⟩, r - 1, wr⟩ rfl] at this
      exact ⟨rfl, this.alloc _, ((Ch.refl _ _).set _ (.inl (show g = g from rfl)) _).alloc _⟩
    · have hd2 : (k == 0) = false := by simpa using hk
      rw [if_neg hk]
      have HK := Lib.hid hk
      clear hk
      go_enter Try.func28, Try.ntmps28
      go_wp2
      refine bodyPost_ret (v := .tuple #[vV ⟨k, n, b⟩, .int .i64 0]) (by simp [results, Try.results28, go_sem, vV]) rfl ?_
      have := HB.out.put (j * 5 + 3) (.int .i64 (r - 1))
      rw [cRow_set HC.out 3 (by omega) _ ⟨⟨k, n, b⟩, r - 1, wr⟩ rfl] at this
      exact ⟨rfl, this.alloc _, ((Ch.refl _ _).set _ (.inl (show g = g from rfl)) _).alloc _⟩

set_option maxHeartbeats 1000000 in
theorem needed_any (v : MV) (w : World) : Calls Try.prog 39 #[vV v] w fun e w' => e = .returned (vV (needV v)) ∧ Below w.heap.size w w' := by
  obtain ⟨k, n, b⟩ := v
  unfold needV vV
  simp only
  by_cases h1 : k = 1
  · subst h1
    go_enter Try.func39, Try.ntmps39
    go_wp2
    exact bodyPost_ret (v := .agg #[.int .i64 1, .int .i64 n, .int .i64 0]) (by simp [results, Try.results39, go_sem]) rfl ⟨by simp, by go_grown⟩
  · have d1 : (k == 1) = false := by simpa using h1
    by_cases h2 : k = 2
    · subst h2
      go_enter Try.func39, Try.ntmps39
      go_wp2
      exact bodyPost_ret (v := .agg #[.int .i64 2, .int .i64 n, .int .i64 b]) (by simp [results, Try.results39, go_sem]) rfl ⟨by simp, by go_grown⟩
    · have d2 : (k == 2) = false := by simpa using h2
      rw [if_neg h1, if_neg h2]
      clear h1 h2
      go_enter Try.func39, Try.ntmps39
      go_wp2
      exact bodyPost_ret (v := .agg #[.int .i64 0, .int .i64 0, .int .i64 0]) (by simp [results, Try.results39, go_sem]) rfl ⟨by simp [v0], by go_grown⟩

end Go.Proofs.Ytnjndggdnmboeaa
