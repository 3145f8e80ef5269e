/- Rows of cells' parts, and the makes that lay them. -/
import Derived.Test.YtnjndggdnmboeaaMAlloc
import Derived.Test.YtnjndggdnmboeaaMSep
namespace Go.Proofs.Ytnjndggdnmboeaa
open Go.RowKit

def gRow (f : MC → List Value) : List MC → List Value
  | [] => []
  | c :: l => f c ++ gRow f l
theorem gRow_get {f : MC → List Value} {z : Nat} (hz : ∀ c, (f c).length = z) {l : List MC} {j : Nat} {c : MC} (h : l[j]? = some c) (i : Nat) (hi : i < z) : (gRow f l)[j * z + i]? = (f c)[i]? := by
  induction l generalizing j with
  | nil => simp at h
  | cons d l ih =>
    cases j with
    | zero =>
      simp only [List.getElem?_cons_zero, Option.some.injEq] at h
      subst h
      simp only [gRow, Nat.zero_mul, Nat.zero_add]
      rw [List.getElem?_append_left (by rw [hz]; exact hi)]
    | succ j =>
      simp only [gRow]
      have e : (j + 1) * z = j * z + z := Nat.succ_mul j z
      rw [List.getElem?_append_right (by rw [hz]; omega), hz, show (j + 1) * z + i - z = j * z + i by omega]
      exact ih (by simpa using h)
theorem gRow_rep (f : MC → List Value) (n : Nat) : gRow f (List.replicate n c0) = (List.replicate n (f c0)).flatten := by
  induction n with
  | zero => rfl
  | succ n ih => simp [List.replicate_succ, gRow, ih]
theorem gRow_set1 {f : MC → List Value} (hz : ∀ c, (f c).length = 1) {l : List MC} {j : Nat} (hj : j < l.length) (c : MC) (u : Value) (hu : f c = [u]) : (gRow f l).set j u = gRow f (l.set j c) := by
  induction l generalizing j with
  | nil => simp at hj
  | cons d l ih =>
    cases j with
    | zero =>
      simp only [gRow, List.set_cons_zero, hu]
      have := hz d
      match hd : f d, this with
      | [x], _ => rfl
    | succ j =>
      simp only [gRow, List.set_cons_succ]
      rw [List.set_append_right _ _ (by rw [hz]; omega), hz, show j + 1 - 1 = j by omega, ih (by simpa using hj)]
theorem gRow_set3 {f : MC → List Value} (hz : ∀ c, (f c).length = 3) {l : List MC} {j : Nat} (hj : j < l.length) (c : MC) (x y z : Value) (hu : f c = [x, y, z]) : (((gRow f l).set (j * 3) x).set (j * 3 + 1) y).set (j * 3 + 2) z = gRow f (l.set j c) := by
  induction l generalizing j with
  | nil => simp at hj
  | cons d l ih =>
    cases j with
    | zero =>
      simp only [gRow, List.set_cons_zero, hu]
      have := hz d
      match hd : f d, this with
      | [a, b, e], _ => rfl
    | succ j =>
      simp only [gRow, List.set_cons_succ]
      rw [List.set_append_right _ _ (by rw [hz]; omega), hz, List.set_append_right _ _ (by rw [hz]; omega), hz, List.set_append_right _ _ (by rw [hz]; omega), hz]
      rw [show (j + 1) * 3 - 3 = j * 3 by omega, show (j + 1) * 3 + 1 - 3 = j * 3 + 1 by omega, show (j + 1) * 3 + 2 - 3 = j * 3 + 2 by omega, ih (by simpa using hj)]

def fV (c : MC) : List Value := vCells c.v
def fR (c : MC) : List Value := [.int .i64 c.r]
def fW (c : MC) : List Value := [.bool c.w]
theorem fV_len (c : MC) : (fV c).length = 3 := rfl
theorem fR_len (c : MC) : (fR c).length = 1 := rfl
theorem fW_len (c : MC) : (fW c).length = 1 := rfl

/- The first k cells are told, the others not yet. -/
def part (cs : List MC) (k : Nat) : List MC := cs.take k ++ List.replicate (cs.length - k) c0
theorem part_zero (cs : List MC) : part cs 0 = List.replicate cs.length c0 := by simp [part]
theorem part_all (cs : List MC) : part cs cs.length = cs := by simp [part]
theorem part_len (cs : List MC) (k : Nat) (hk : k ≤ cs.length) : (part cs k).length = cs.length := by simp [part]; omega
theorem part_set {cs : List MC} {k : Nat} {c : MC} (h : cs[k]? = some c) : (part cs k).set k c = part cs (k + 1) := by
  obtain ⟨hk, e⟩ := List.getElem?_eq_some_iff.1 h
  unfold part
  rw [List.set_append_right _ _ (by simp; omega), List.length_take, show k - min k cs.length = 0 by omega, show cs.length - k = (cs.length - (k + 1)) + 1 by omega, List.replicate_succ, List.set_cons_zero, List.take_succ_eq_append_getElem hk, e, List.append_assoc]
  rfl

theorem Try.infoValue : (Try.prog.info? 34).map (fun i => (i.zero, i.size, i.bytes)) = some (some (.agg #[.int .i64 0, .int .i64 0, .int .i64 0]), 3, 24) := by kernel_rfl
theorem Try.infoInt : (Try.prog.info? 3).map (fun i => (i.zero, i.size, i.bytes)) = some (some (.int .i64 0), 1, 8) := by kernel_rfl
theorem Try.infoBool : (Try.prog.info? 4).map (fun i => (i.zero, i.size, i.bytes)) = some (some (.bool false), 1, 1) := by kernel_rfl

theorem run_make_row {t e : TypeId} {z : Value} {size bytes : Nat} (ht : Try.prog.underlying t = some (.slice e)) (hi : (Try.prog.info? e).map (fun i => (i.zero, i.size, i.bytes)) = some (some z, size, bytes)) (hzs : z.cells.size = size) (hs : 0 < size) (hb : bytes ≤ 64) (f : MC → List Value) (hf : z.cells.toList = f c0)
    (n : Nat) (hn : n ≤ 65536) (w : World) :
    (Instr.makeSlice t (.int .i64 (n : Int)) (.int .i64 (n : Int))).run Try.prog w = .ok (.slice (some ⟨w.heap.size, 0, none⟩) n n) (w.alloc (.cells (gRow f (List.replicate n c0)).toArray e)) := by
  obtain ⟨i, h1, h2, h3, h4⟩ := info_parts hi
  have hbn : bytes * n ≤ 64 * 65536 := Nat.mul_le_mul hb hn
  have hr := run_make (P := Try.prog) w t e i z ht h1 h2 .i64 .i64 n n (by omega) (Int.le_refl _) (by rw [h4]; omega) (by omega)
  simp only [Int.toNat_natCast, h3] at hr
  rw [hr]
  have e2 : madeCells z.cells (n * size) = (gRow f (List.replicate n c0)).toArray := by
    rw [← Array.toList_inj, made_flat z.cells size hzs hs n, hf, gRow_rep]
  rw [e2]

end Go.Proofs.Ytnjndggdnmboeaa
