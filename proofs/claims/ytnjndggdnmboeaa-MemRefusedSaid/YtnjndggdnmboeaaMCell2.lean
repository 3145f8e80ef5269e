/- The contract of mem.cell's endWrite. -/
import Derived.Test.YtnjndggdnmboeaaMCell
namespace Go.Proofs.Ytnjndggdnmboeaa
open Go.RowKit

theorem cRow_put3 {l : List MC} {j : Nat} {c : MC} (h : l[j]? = some c) (v : MV) (x : Bool) : ((((cRow l).set (j * 5 + 4) (.bool x)).set (j * 5) (.int .i64 v.kind)).set (j * 5 + 1) (.int .i64 v.n)).set (j * 5 + 2) (.int .i64 v.block) = cRow (l.set j ⟨v, c.r, x⟩) := by
  have hj := (List.getElem?_eq_some_iff.1 h).1
  have e : ∀ d : MC, (l.set j d)[j]? = some d := fun d => by rw [List.getElem?_set_self hj]
  rw [cRow_set h 4 (by omega) _ ⟨c.v, c.r, x⟩ rfl]
  have h1 := cRow_set (e ⟨c.v, c.r, x⟩) 0 (by omega) (.int .i64 v.kind) ⟨⟨v.kind, c.v.n, c.v.block⟩, c.r, x⟩ rfl
  rw [Nat.add_zero, List.set_set] at h1
  rw [h1]
  have h2 := cRow_set (e ⟨⟨v.kind, c.v.n, c.v.block⟩, c.r, x⟩) 1 (by omega) (.int .i64 v.n) ⟨⟨v.kind, v.n, c.v.block⟩, c.r, x⟩ rfl
  rw [List.set_set] at h2
  rw [h2]
  have h3 := cRow_set (e ⟨⟨v.kind, v.n, c.v.block⟩, c.r, x⟩) 2 (by omega) (.int .i64 v.block) ⟨⟨v.kind, v.n, v.block⟩, c.r, x⟩ rfl
  rw [List.set_set] at h3
  rw [h3]

def endWriteW (z : Bool) : Int := if z = true then 0 else 6
def endWriteC (z : Bool) (v : MV) (c : MC) : MC := if z = true then ⟨needV v, c.r, false⟩ else c
set_option maxHeartbeats 2000000 in
theorem endWrite_any {w : World} {g j : Nat} {cs : List MC} {c : MC} (hb : Blk w g (cRow cs) 82) (hc : cs[j]? = some c) (v : MV) :
    Calls Try.prog 27 #[.pointer (some ⟨g, j * 5, none⟩), .agg #[.int .i64 v.kind, .int .i64 v.n, .int .i64 v.block]] w (CPost g j cs (endWriteC c.w v c) (.int .i64 (endWriteW c.w)) w) := by
  obtain ⟨f0, f1, f2, f3, f4⟩ := cell_facts hb hc
  have z0 := hb.frozen (j * 5)
  have z1 := hb.frozen (j * 5 + 1)
  have z2 := hb.frozen (j * 5 + 2)
  have z4 := hb.frozen (j * 5 + 4)
  have hlt := hb.lt
  have HB := Lib.hid hb
  have HC := Lib.hid hc
  clear hb hc f3
  generalize hz : c.w = z at *
  have HZ := Lib.hid hz
  clear hz
  cases z
  · go_enter Try.func27, Try.ntmps27
    go_wp2
    go_ret
    exact CPost.keep HB.out HC.out ((Below.refl _ _).alloc (Nat.le_refl _) _)
  · have hn := needed_any v
    unfold vV at hn
    have HB4 := Lib.hid (HB.out.put (j * 5 + 4) (.bool false))
    go_enter Try.func27, Try.ntmps27
    go_wp2_with fail
    ((with_reducible refine (hn _).mono ?_); rintro e w1 ⟨rfl, hb1⟩)
    have HB1 := Lib.hid ((HB4.out.alloc (.cells #[.int .i64 v.kind, .int .i64 v.n, .int .i64 v.block] 34)).below hb1 (by simp; omega))
    have HL := Lib.hid hb1
    have y0 := (HB1.out.frozen (j * 5))
    have y1 := (HB1.out.frozen (j * 5 + 1))
    have y2 := (HB1.out.frozen (j * 5 + 2))
    have x0 : w1.cell? ⟨g, j * 5, none⟩ = some (.int .i64 c.v.kind) := by
      rw [HB1.out.cell (j * 5), List.getElem?_set_ne (by omega), ← HB.out.cell (j * 5), f0]
    have x1 : w1.cell? ⟨g, j * 5 + 1, none⟩ = some (.int .i64 c.v.n) := by
      rw [HB1.out.cell (j * 5 + 1), List.getElem?_set_ne (by omega), ← HB.out.cell (j * 5 + 1), f1]
    have x2 : w1.cell? ⟨g, j * 5 + 2, none⟩ = some (.int .i64 c.v.block) := by
      rw [HB1.out.cell (j * 5 + 2), List.getElem?_set_ne (by omega), ← HB.out.cell (j * 5 + 2), f2]
    have hlt1 := HB1.out.lt
    clear hb1 hn f0 f1 f2 f4 z0 z1 z2 z4
    generalize hnv : needV v = nv at *
    have HN := Lib.hid hnv
    clear hnv
    go_wp2
    go_ret
    refine ⟨rfl, ?_, ?_⟩
    · have := ((HB1.out.put (j * 5) (.int .i64 nv.kind)).put (j * 5 + 1) (.int .i64 nv.n)).put (j * 5 + 2) (.int .i64 nv.block)
      rw [cRow_put3 HC.out nv false] at this
      unfold endWriteC
      rw [if_pos rfl, HN.out]
      exact this
    · have h1 := (((Ch.refl (· = g) w).set ⟨g, j * 5 + 4, none⟩ (.inl (show g = g from rfl)) (.bool false)).alloc (.cells #[.int .i64 v.kind, .int .i64 v.n, .int .i64 v.block] 34)).trans (Ch.of_below (O := (· = g)) HL.out) (fun _ _ h => h)
      exact ((h1.set _ (.inl (show g = g from rfl)) _).set _ (.inl (show g = g from rfl)) _).set _ (.inl (show g = g from rfl)) _

end Go.Proofs.Ytnjndggdnmboeaa
