/- Plain facts on names: which texts are names. Nothing of the program is walked here. -/
import Derived.Test.YtflhniiemmahmaaDoorKey
namespace Go.Proofs.YtflhniiemmahmaaDoor
open Go.RowKit

def at0 (s : ByteArray) : Int := ((s.data.toList.headD 0).toNat : Int)

def isNameB (s : ByteArray) : Bool := decide (1 ≤ s.size) && decide (s.size ≤ 16) && isLI (at0 s) && decide (endOf isWI s 0 = s.size) && !isKeyB s

theorem isKeyB_eq (s : ByteArray) : isKeyB s = (s.toList == [116, 121, 112, 101] || (s.toList == [102, 110] || (s.toList == [111, 119, 110] || (s.toList == [99, 101, 108, 108] || (s.toList == [99, 111, 117, 110, 116, 101, 100] || (s.toList == [108, 111, 99, 107] || (s.toList == [103, 117, 97, 114, 100] || (s.toList == [119, 104, 101, 114, 101] || (s.toList == [105, 110, 116] || (s.toList == [109, 117, 116] || (s.toList == [102, 114, 101, 101] || (s.toList == [117, 110, 108, 111, 99, 107] || (s.toList == [105, 102] || (s.toList == [101, 108, 115, 101] || (s.toList == [119, 104, 105, 108, 101] || (s.toList == [114, 101, 116, 117, 114, 110] || (s.toList == [97, 98, 111, 114, 116] || (s.toList == [102, 111, 114, 107] || (s.toList == [110, 101, 119] || s.toList == [97, 114, 114, 97, 121]))))))))))))))))))) := by
  unfold isKeyB keyFrom keyList
  rw [ByteArray.toList_eq]
  simp only [List.drop_zero, List.contains_cons, List.contains_nil, Bool.or_false]

theorem at0_eq (s : ByteArray) (h : 0 < s.size) : at0 s = (s[0].toNat : Int) := by
  have := drop_at s 0 h
  rw [List.drop_zero] at this
  unfold at0
  rw [this]
  rfl

theorem toList_len (s : ByteArray) : s.toList.length = s.size := by
  rw [ByteArray.toList_eq]
  exact Array.length_toList

theorem toList_ne (s : ByteArray) (h : 0 < s.size) : ¬ s.toList = [] := by
  intro e
  have := toList_len s
  rw [e] at this
  simp at this
  omega

theorem toList_nil (s : ByteArray) (h : s.size = 0) : s.toList = [] := List.eq_nil_of_length_eq_zero ((toList_len s).trans h)

theorem isName_none (s : ByteArray) (h : s.size = 0) : isNameB s = false := by unfold isNameB; simp [h]
theorem isName_long (s : ByteArray) (h : 16 < s.size) : isNameB s = false := by
  have : ¬ s.size ≤ 16 := by omega
  unfold isNameB; simp [this]
theorem isName_first (s : ByteArray) (h : 0 < s.size) (h1 : ¬ isLI (s[0].toNat : Int) = true) : isNameB s = false := by
  unfold isNameB; rw [at0_eq s h]; simp [h1]
theorem isName_run (s : ByteArray) (h1 : ¬ (endOf isWI s 0 : Int) = (s.size : Int)) : isNameB s = false := by
  have : ¬ endOf isWI s 0 = s.size := by omega
  unfold isNameB; simp [this]
theorem isName_key (s : ByteArray) (h : 0 < s.size) (h2 : s.size ≤ 16) (h1 : isLI (s[0].toNat : Int) = true) (h3 : (endOf isWI s 0 : Int) = (s.size : Int)) : isNameB s = !isKeyB s := by
  have h3' : endOf isWI s 0 = s.size := by omega
  have h4 : 1 ≤ s.size := h
  unfold isNameB; rw [at0_eq s h]; simp [h1, h2, h3', h4]

end Go.Proofs.YtflhniiemmahmaaDoor
