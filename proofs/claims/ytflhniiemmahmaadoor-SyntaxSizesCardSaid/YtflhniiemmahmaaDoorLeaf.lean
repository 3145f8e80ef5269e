/- The contracts of the byte predicates of lex and of lychgateref01, and of lex.runEnd: each returns what the plain function says and leaves the world as it was. No conditions but that a text is at most maxLen bytes long. -/
import Derived.Test.YtflhniiemmahmaaDoorRows
import Derived.WalkKit
import Derived.WalkSpells
import Derived.Lib.Hide
import Derived.Deep.QuietTactic
import Derived.BigQuiet
import Derived.Handy
namespace Go.Proofs.YtflhniiemmahmaaDoor
open Go.RowKit

def isLI (n : Int) : Bool := (decide (97 ≤ n) && decide (n ≤ 122)) || n == 95
def isDI (n : Int) : Bool := decide (48 ≤ n) && decide (n ≤ 57)
def isWI (n : Int) : Bool := isLI n || isDI n
def isRI (n : Int) : Bool := n != 10

theorem ret_bool {a b : Bool} (h : a = b) : Ending.returned (.bool a) = .returned (.bool b) := by rw [h]

set_option maxHeartbeats 400000 in
theorem beginsWord_any (n : Int) (w : World) :
    Calls Tryd.prog 39 #[.int .u8 n] w fun e w' => e = .returned (.bool (isLI n)) ∧ w = w' := by
  go_enter Tryd.func39, Tryd.ntmps39
  go_wp2
  all_goals go_ret
  all_goals refine ⟨ret_bool ?_, rfl⟩
  all_goals (unfold isLI; first | (simp [*]; done) | (rw [Bool.eq_iff_iff]; simp; omega))

set_option maxHeartbeats 400000 in
theorem isDigit_any (n : Int) (w : World) :
    Calls Tryd.prog 41 #[.int .u8 n] w fun e w' => e = .returned (.bool (isDI n)) ∧ w = w' := by
  go_enter Tryd.func41, Tryd.ntmps41
  go_wp2
  all_goals go_ret
  all_goals refine ⟨ret_bool ?_, rfl⟩
  all_goals (unfold isDI; first | (simp [*]; done) | (rw [Bool.eq_iff_iff]; simp; omega))

set_option maxHeartbeats 400000 in
theorem letter_any (n : Int) (w : World) :
    Calls Tryd.prog 46 #[.int .u8 n] w fun e w' => e = .returned (.bool (isLI n)) ∧ w = w' := by
  go_enter Tryd.func46, Tryd.ntmps46
  go_wp2
  all_goals go_ret
  all_goals refine ⟨ret_bool ?_, rfl⟩
  all_goals (unfold isLI; first | (simp [*]; done) | (rw [Bool.eq_iff_iff]; simp; omega))

set_option maxHeartbeats 400000 in
theorem digit_any (n : Int) (w : World) :
    Calls Tryd.prog 47 #[.int .u8 n] w fun e w' => e = .returned (.bool (isDI n)) ∧ w = w' := by
  go_enter Tryd.func47, Tryd.ntmps47
  go_wp2
  all_goals go_ret
  all_goals refine ⟨ret_bool ?_, rfl⟩
  all_goals (unfold isDI; first | (simp [*]; done) | (rw [Bool.eq_iff_iff]; simp; omega))

set_option maxHeartbeats 400000 in
theorem isWordByte_any (n : Int) (w : World) :
    Calls Tryd.prog 53 #[.int .u8 n] w fun e w' => e = .returned (.bool (isWI n)) ∧ w = w' := by
  by_cases h : isLI n = true
  · have hw : isWI n = true := by unfold isWI; rw [h]; rfl
    have H := Lib.hid hw
    clear hw
    go_enter Tryd.func53, Tryd.ntmps53
    go_wp2_with (first
      | (go_at_call 39; refine (beginsWord_any _ _).mono ?_; rintro e w' ⟨rfl, rfl⟩)
      | (go_at_call 41; refine (isDigit_any _ _).mono ?_; rintro e w' ⟨rfl, rfl⟩))
    all_goals go_ret
    exact ⟨ret_bool H.out.symm, rfl⟩
  · have hf : isLI n = false := by simpa using h
    have hw : isWI n = isDI n := by unfold isWI; rw [hf]; rfl
    have H := Lib.hid hw
    clear hw h
    go_enter Tryd.func53, Tryd.ntmps53
    go_wp2_with (first
      | (go_at_call 39; refine (beginsWord_any _ _).mono ?_; rintro e w' ⟨rfl, rfl⟩)
      | (go_at_call 41; refine (isDigit_any _ _).mono ?_; rintro e w' ⟨rfl, rfl⟩))
    all_goals go_ret
    exact ⟨ret_bool H.out.symm, rfl⟩

set_option maxHeartbeats 400000 in
theorem remark_any (n : Int) (w : World) :
    Calls Tryd.prog 26 #[.int .u8 n] w fun e w' => e = .returned (.bool (isRI n)) ∧ w = w' := by
  go_enter Tryd.func26, Tryd.ntmps26
  go_wp2
  all_goals go_ret
  all_goals exact ⟨ret_bool (by unfold isRI; simp), rfl⟩

/- How far a run of bytes of one make goes from a place on. -/
def runLen (p : Int → Bool) : List UInt8 → Nat
  | [] => 0
  | b :: r => if p b.toNat then runLen p r + 1 else 0

/- The place behind the run that begins at place k of the text s. -/
def endOf (p : Int → Bool) (s : ByteArray) (k : Nat) : Nat := k + runLen p (s.data.toList.drop k)

theorem runLen_le (p : Int → Bool) (l : List UInt8) : runLen p l ≤ l.length := by
  induction l with
  | nil => simp [runLen]
  | cons b r ih => simp only [runLen]; split <;> simp <;> omega

theorem endOf_ge (p : Int → Bool) (s : ByteArray) (k : Nat) : k ≤ endOf p s k := by unfold endOf; omega

theorem endOf_le (p : Int → Bool) (s : ByteArray) (k : Nat) (h : k ≤ s.size) : endOf p s k ≤ s.size := by
  unfold endOf
  have := runLen_le p (s.data.toList.drop k)
  simp at this
  omega

theorem drop_at (s : ByteArray) (k : Nat) (h : k < s.size) : s.data.toList.drop k = s[k] :: s.data.toList.drop (k + 1) := List.drop_eq_getElem_cons (by simpa using h)

theorem endOf_stop {p : Int → Bool} {s : ByteArray} {k : Nat} (h : k < s.size) (hp : p (s[k].toNat : Int) = false) : endOf p s k = k := by
  unfold endOf
  rw [drop_at s k h, runLen, hp]
  simp

theorem endOf_step {p : Int → Bool} {s : ByteArray} {k : Nat} (h : k < s.size) (hp : p (s[k].toNat : Int) = true) : endOf p s k = endOf p s (k + 1) := by
  unfold endOf
  rw [drop_at s k h, runLen, hp]
  simp
  omega

theorem endOf_all {p : Int → Bool} {s : ByteArray} {k : Nat} (h : s.size ≤ k) : endOf p s k = k := by
  unfold endOf
  rw [List.drop_of_length_le (by simp; omega)]
  simp [runLen]

theorem ret_int {k : IntKind} {a b : Int} (h : a = b) : Ending.returned (.int k a) = .returned (.int k b) := by rw [h]

set_option maxHeartbeats 400000 in
theorem runEnd_of (f : FuncId) (p : Int → Bool) (hcf : ∀ (n : Int) (w : World), (callFunc f #[.int .u8 n]).run Tryd.prog w = .ok (.enter f #[.int .u8 n]) w)
    (hf : ∀ n w, Calls Tryd.prog f #[.int .u8 n] w fun e w' => e = .returned (.bool (p n)) ∧ w = w')
    (s : ByteArray) (a : Int) (w : World) (hs : s.size ≤ maxLen) (h0 : 0 ≤ a) (h1 : a ≤ s.size) :
    Calls Tryd.prog 25 #[.string s, .int .i64 a, .func (.func f) #[] #[]] w fun e w' => e = .returned (.int .i64 (endOf p s a.toNat)) ∧ w = w' := by
  unfold maxLen at hs
  obtain ⟨k0, rfl⟩ := Int.eq_ofNat_of_zero_le h0
  have HF := Lib.hid hf
  clear hf
  go_enter Tryd.func25, Tryd.ntmps25
  go_wp2
  go_loop [1] (fun i => ∃ k : Nat, k ≤ s.size ∧ i = .int .i64 k ∧ endOf p s k = endOf p s k0) (fun i => s.size - (intOf i).toNat)
  case atStart => exact ⟨k0, by omega, rfl, rfl⟩
  case round =>
    obtain ⟨k, hk, rfl, hr⟩ := hrel
    have HR := Lib.hid hr
    clear hr
    by_cases hlt : k < s.size
    · cases hp : p (s[k].toNat : Int)
      · have HFIN := Lib.hid ((endOf_stop hlt hp).symm.trans HR.out)
        go_wp2_with (refine (HF.out _ _).mono ?_; rintro e w' ⟨rfl, rfl⟩)
        go_ret
        exact ⟨ret_int (by rw [HFIN.out]; simp), rfl⟩
      · have HN := Lib.hid ((endOf_step hlt hp).symm.trans HR.out)
        go_wp2_with (refine (HF.out _ _).mono ?_; rintro e w' ⟨rfl, rfl⟩)
        go_round
        case rel => exact ⟨k + 1, by omega, by go_num, HN.out⟩
        case measure => simp [intOf]; omega
    · have HFIN := Lib.hid ((endOf_all (p := p) (s := s) (k := k) (by omega)).symm.trans HR.out)
      go_wp2
      go_ret
      exact ⟨ret_int (by rw [HFIN.out]), rfl⟩

theorem run_enter {P : Program} {f : FuncId} {fn : Func} (hf : P.funcs[f]? = some fn) (hname : (fn.name == "runtime.NumGoroutine") = false) (hb : fn.body.isNone = false) (args : Array Value) (w : World) :
    (callFunc f args).run P w = .ok (.enter f args) w := by
  unfold callFunc
  simp only [Sem.run_bind, run_program, Result.andThen_ok, hf, hname, hb, Bool.false_eq_true, if_false, Sem.run_pure]

theorem runEnd_word (s : ByteArray) (a : Int) (w : World) (hs : s.size ≤ maxLen) (h0 : 0 ≤ a) (h1 : a ≤ s.size) :
    Calls Tryd.prog 25 #[.string s, .int .i64 a, .func (.func 53) #[] #[]] w fun e w' => e = .returned (.int .i64 (endOf isWI s a.toNat)) ∧ w = w' :=
  runEnd_of _ _ (fun _ w => run_enter Tryd.func53 (by kernel_rfl) (by kernel_rfl) _ w) isWordByte_any s a w hs h0 h1

theorem runEnd_digit (s : ByteArray) (a : Int) (w : World) (hs : s.size ≤ maxLen) (h0 : 0 ≤ a) (h1 : a ≤ s.size) :
    Calls Tryd.prog 25 #[.string s, .int .i64 a, .func (.func 41) #[] #[]] w fun e w' => e = .returned (.int .i64 (endOf isDI s a.toNat)) ∧ w = w' :=
  runEnd_of _ _ (fun _ w => run_enter Tryd.func41 (by kernel_rfl) (by kernel_rfl) _ w) isDigit_any s a w hs h0 h1

theorem runEnd_remark (s : ByteArray) (a : Int) (w : World) (hs : s.size ≤ maxLen) (h0 : 0 ≤ a) (h1 : a ≤ s.size) :
    Calls Tryd.prog 25 #[.string s, .int .i64 a, .func (.func 26) #[] #[]] w fun e w' => e = .returned (.int .i64 (endOf isRI s a.toNat)) ∧ w = w' :=
  runEnd_of _ _ (fun _ w => run_enter Tryd.func26 (by kernel_rfl) (by kernel_rfl) _ w) remark_any s a w hs h0 h1

end Go.Proofs.YtflhniiemmahmaaDoor
