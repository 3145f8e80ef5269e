/- The contracts of the byte predicates of lex and of lychgateref01, and of lex.runEnd: each returns what the plain function says and leaves the world as it was. No conditions but that a text is at most maxLen bytes long. The contract of lex.IsKey in a world that holds the table of key words, and of lychgateref01.IsKey in any world: each returns whether the text is one of the twenty key words, and leaves the world as it was. Plain facts on names: which texts are names. Nothing of the program is walked here. The contract of lex.wordAt in a world that holds the tables of lex: the token of the word at a place, or ErrWord; nothing that was in memory is changed. The contracts of strings.HasPrefix, strings.IndexByte and lex.signAt: the token of the sign at a place, the longer one where two could stand, or ErrByte; nothing that was in memory is changed. lex.signAt in a world that holds the tables of lex. -/
import Derived.Test.YtdkdidgeaalcgaaDoorRows
import Derived.WalkKit
import Derived.WalkSpells
import Derived.Lib.Hide
import Derived.Deep.QuietTactic
import Derived.BigQuiet
import Derived.Handy
import Derived.Deep.MidRow
import Derived.Lib.Bytealg
namespace Go.Proofs.YtdkdidgeaalcgaaDoor
section
open Go.RowKit

def isLI (n : Int) : Bool := (decide (97 ≤ n) && decide (n ≤ 122)) || n == 95
def isDI (n : Int) : Bool := decide (48 ≤ n) && decide (n ≤ 57)
def isWI (n : Int) : Bool := isLI n || isDI n
def isRI (n : Int) : Bool := n != 10

theorem ret_bool {a b : Bool} (h : a = b) : Ending.returned (.bool a) = .returned (.bool b) := by rw [h]

set_option maxHeartbeats 400000 in
theorem beginsWord_any (n : Int) (w : World) :
    Calls Tryd.prog 28 #[.int .u8 n] w fun e w' => e = .returned (.bool (isLI n)) ∧ w = w' := by
  go_enter Tryd.func28, Tryd.ntmps28
  go_wp2
  all_goals go_ret
  all_goals refine ⟨ret_bool ?_, rfl⟩
  all_goals (unfold isLI; first | (simp [*]; done) | (rw [Bool.eq_iff_iff]; simp; omega))

set_option maxHeartbeats 400000 in
theorem isDigit_any (n : Int) (w : World) :
    Calls Tryd.prog 30 #[.int .u8 n] w fun e w' => e = .returned (.bool (isDI n)) ∧ w = w' := by
  go_enter Tryd.func30, Tryd.ntmps30
  go_wp2
  all_goals go_ret
  all_goals refine ⟨ret_bool ?_, rfl⟩
  all_goals (unfold isDI; first | (simp [*]; done) | (rw [Bool.eq_iff_iff]; simp; omega))

set_option maxHeartbeats 400000 in
theorem isWordByte_any (n : Int) (w : World) :
    Calls Tryd.prog 41 #[.int .u8 n] w fun e w' => e = .returned (.bool (isWI n)) ∧ w = w' := by
  by_cases h : isLI n = true
  · have hw : isWI n = true := by unfold isWI; rw [h]; rfl
    have H := Lib.hid hw
    clear hw
    go_enter Tryd.func41, Tryd.ntmps41
    go_wp2_with (first
      | (go_at_call 28; refine (beginsWord_any _ _).mono ?_; rintro e w' ⟨rfl, rfl⟩)
      | (go_at_call 30; refine (isDigit_any _ _).mono ?_; rintro e w' ⟨rfl, rfl⟩))
    all_goals go_ret
    exact ⟨ret_bool H.out.symm, rfl⟩
  · have hf : isLI n = false := by simpa using h
    have hw : isWI n = isDI n := by unfold isWI; rw [hf]; rfl
    have H := Lib.hid hw
    clear hw h
    go_enter Tryd.func41, Tryd.ntmps41
    go_wp2_with (first
      | (go_at_call 28; refine (beginsWord_any _ _).mono ?_; rintro e w' ⟨rfl, rfl⟩)
      | (go_at_call 30; refine (isDigit_any _ _).mono ?_; rintro e w' ⟨rfl, rfl⟩))
    all_goals go_ret
    exact ⟨ret_bool H.out.symm, rfl⟩

set_option maxHeartbeats 400000 in
theorem remark_any (n : Int) (w : World) :
    Calls Tryd.prog 22 #[.int .u8 n] w fun e w' => e = .returned (.bool (isRI n)) ∧ w = w' := by
  go_enter Tryd.func22, Tryd.ntmps22
  go_wp2
  all_goals go_ret
  all_goals exact ⟨ret_bool (by unfold isRI; simp), rfl⟩

/- How far a run of bytes of one make goes from a place on. -/
def runLen (p : Int → Bool) : List UInt8 → Nat
  | [] => 0
  | b :: r => if p b.toNat then runLen p r + 1 else 0

/- The place behind the run that begins at place k of the text s. -/
def endOf (p : Int → Bool) (s : ByteArray) (k : Nat) : Nat := k + runLen p (s.data.toList.drop k)

theorem runLen_le (p : Int → Bool) (l : List UInt8) : runLen p l ≤ l.length := by
  induction l with
  | nil => simp [runLen]
  | cons b r ih => simp only [runLen]; split <;> simp <;> omega

theorem endOf_ge (p : Int → Bool) (s : ByteArray) (k : Nat) : k ≤ endOf p s k := by unfold endOf; omega

theorem endOf_le (p : Int → Bool) (s : ByteArray) (k : Nat) (h : k ≤ s.size) : endOf p s k ≤ s.size := by
  unfold endOf
  have := runLen_le p (s.data.toList.drop k)
  simp at this
  omega

theorem drop_at (s : ByteArray) (k : Nat) (h : k < s.size) : s.data.toList.drop k = s[k] :: s.data.toList.drop (k + 1) := List.drop_eq_getElem_cons (by simpa using h)

theorem endOf_stop {p : Int → Bool} {s : ByteArray} {k : Nat} (h : k < s.size) (hp : p (s[k].toNat : Int) = false) : endOf p s k = k := by
  unfold endOf
  rw [drop_at s k h, runLen, hp]
  simp

theorem endOf_step {p : Int → Bool} {s : ByteArray} {k : Nat} (h : k < s.size) (hp : p (s[k].toNat : Int) = true) : endOf p s k = endOf p s (k + 1) := by
  unfold endOf
  rw [drop_at s k h, runLen, hp]
  simp
  omega

theorem endOf_all {p : Int → Bool} {s : ByteArray} {k : Nat} (h : s.size ≤ k) : endOf p s k = k := by
  unfold endOf
  rw [List.drop_of_length_le (by simp; omega)]
  simp [runLen]

theorem ret_int {k : IntKind} {a b : Int} (h : a = b) : Ending.returned (.int k a) = .returned (.int k b) := by rw [h]

set_option maxHeartbeats 400000 in
theorem runEnd_of (f : FuncId) (p : Int → Bool) (hcf : ∀ (n : Int) (w : World), (callFunc f #[.int .u8 n]).run Tryd.prog w = .ok (.enter f #[.int .u8 n]) w)
    (hf : ∀ n w, Calls Tryd.prog f #[.int .u8 n] w fun e w' => e = .returned (.bool (p n)) ∧ w = w')
    (s : ByteArray) (a : Int) (w : World) (hs : s.size ≤ maxLen) (h0 : 0 ≤ a) (h1 : a ≤ s.size) :
    Calls Tryd.prog 21 #[.string s, .int .i64 a, .func (.func f) #[] #[]] w fun e w' => e = .returned (.int .i64 (endOf p s a.toNat)) ∧ w = w' := by
  unfold maxLen at hs
  obtain ⟨k0, rfl⟩ := Int.eq_ofNat_of_zero_le h0
  have HF := Lib.hid hf
  clear hf
  go_enter Tryd.func21, Tryd.ntmps21
  go_wp2
  go_loop [1] (fun i => ∃ k : Nat, k ≤ s.size ∧ i = .int .i64 k ∧ endOf p s k = endOf p s k0) (fun i => s.size - (intOf i).toNat)
  case atStart => exact ⟨k0, by omega, rfl, rfl⟩
  case round =>
    obtain ⟨k, hk, rfl, hr⟩ := hrel
    have HR := Lib.hid hr
    clear hr
    by_cases hlt : k < s.size
    · cases hp : p (s[k].toNat : Int)
      · have HFIN := Lib.hid ((endOf_stop hlt hp).symm.trans HR.out)
        go_wp2_with (refine (HF.out _ _).mono ?_; rintro e w' ⟨rfl, rfl⟩)
        go_ret
        exact ⟨ret_int (by rw [HFIN.out]; simp), rfl⟩
      · have HN := Lib.hid ((endOf_step hlt hp).symm.trans HR.out)
        go_wp2_with (refine (HF.out _ _).mono ?_; rintro e w' ⟨rfl, rfl⟩)
        go_round
        case rel => exact ⟨k + 1, by omega, by go_num, HN.out⟩
        case measure => simp [intOf]; omega
    · have HFIN := Lib.hid ((endOf_all (p := p) (s := s) (k := k) (by omega)).symm.trans HR.out)
      go_wp2
      go_ret
      exact ⟨ret_int (by rw [HFIN.out]), rfl⟩

theorem run_enter {P : Program} {f : FuncId} {fn : Func} (hf : P.funcs[f]? = some fn) (hname : (fn.name == "runtime.NumGoroutine") = false) (hb : fn.body.isNone = false) (args : Array Value) (w : World) :
    (callFunc f args).run P w = .ok (.enter f args) w := by
  unfold callFunc
  simp only [Sem.run_bind, run_program, Result.andThen_ok, hf, hname, hb, Bool.false_eq_true, if_false, Sem.run_pure]

theorem runEnd_word (s : ByteArray) (a : Int) (w : World) (hs : s.size ≤ maxLen) (h0 : 0 ≤ a) (h1 : a ≤ s.size) :
    Calls Tryd.prog 21 #[.string s, .int .i64 a, .func (.func 41) #[] #[]] w fun e w' => e = .returned (.int .i64 (endOf isWI s a.toNat)) ∧ w = w' :=
  runEnd_of _ _ (fun _ w => run_enter Tryd.func41 (by kernel_rfl) (by kernel_rfl) _ w) isWordByte_any s a w hs h0 h1

theorem runEnd_digit (s : ByteArray) (a : Int) (w : World) (hs : s.size ≤ maxLen) (h0 : 0 ≤ a) (h1 : a ≤ s.size) :
    Calls Tryd.prog 21 #[.string s, .int .i64 a, .func (.func 30) #[] #[]] w fun e w' => e = .returned (.int .i64 (endOf isDI s a.toNat)) ∧ w = w' :=
  runEnd_of _ _ (fun _ w => run_enter Tryd.func30 (by kernel_rfl) (by kernel_rfl) _ w) isDigit_any s a w hs h0 h1

theorem runEnd_remark (s : ByteArray) (a : Int) (w : World) (hs : s.size ≤ maxLen) (h0 : 0 ≤ a) (h1 : a ≤ s.size) :
    Calls Tryd.prog 21 #[.string s, .int .i64 a, .func (.func 22) #[] #[]] w fun e w' => e = .returned (.int .i64 (endOf isRI s a.toNat)) ∧ w = w' :=
  runEnd_of _ _ (fun _ w => run_enter Tryd.func22 (by kernel_rfl) (by kernel_rfl) _ w) remark_any s a w hs h0 h1
end

section
open Go.RowKit

def keyList : List (List UInt8) :=
  [[116, 121, 112, 101], [102, 110], [111, 119, 110], [99, 101, 108, 108], [99, 111, 117, 110, 116, 101, 100], [108, 111, 99, 107], [103, 117, 97, 114, 100], [119, 104, 101, 114, 101], [105, 110, 116], [109, 117, 116],
   [102, 114, 101, 101], [117, 110, 108, 111, 99, 107], [105, 102], [101, 108, 115, 101], [119, 104, 105, 108, 101], [114, 101, 116, 117, 114, 110], [97, 98, 111, 114, 116], [102, 111, 114, 107], [110, 101, 119], [97, 114, 114, 97, 121]]

def keyAt (i : Nat) : ByteArray := ⟨(keyList.getD i []).toArray⟩

/- Is it one of the key words from the i-th on? -/
def keyFrom (i : Nat) (s : ByteArray) : Bool := (keyList.drop i).contains s.data.toList
def isKeyB (s : ByteArray) : Bool := keyFrom 0 s

def pairAt (i : Nat) : ByteArray := ⟨([[45, 62], [60, 61], [61, 61]].getD i ([] : List UInt8)).toArray⟩

/- The tables' blocks lie below a number. -/
def TabsIn (B : Nat) : Prop := 0 < B ∧ 2 < B ∧ 1 < B

/- The world holds the tables of lex: blanks, key words, signs of two bytes. -/
structure Tabs (w : World) : Prop where
  b0 : w.cell? ⟨0, 0, none⟩ = some (.int .u8 32)
  b1 : w.cell? ⟨0, 1, none⟩ = some (.int .u8 10)
  keys : ∀ i, i < 20 → w.cell? ⟨2, i, none⟩ = some (.string (keyAt i))
  pairs : ∀ i, i < 3 → w.cell? ⟨1, i, none⟩ = some (.string (pairAt i))
  size : TabsIn w.heap.size

theorem Tabs.below {w w' : World} {B : Nat} (h : Tabs w) (hb : Below B w w') (hB : TabsIn B) : Tabs w' :=
  ⟨(hb.cell (p := ⟨0, 0, none⟩) hB.1).trans h.b0, (hb.cell (p := ⟨0, 1, none⟩) hB.1).trans h.b1,
   fun i hi => (hb.cell (p := ⟨2, i, none⟩) hB.2.1).trans (h.keys i hi), fun i hi => (hb.cell (p := ⟨1, i, none⟩) hB.2.2).trans (h.pairs i hi),
   ⟨Nat.lt_of_lt_of_le h.size.1 hb.size, Nat.lt_of_lt_of_le h.size.2.1 hb.size, Nat.lt_of_lt_of_le h.size.2.2 hb.size⟩⟩

def keyVals : List Value := (List.range 20).map fun i => .string (keyAt i)

theorem keyVals_get (j : Nat) (hj : j < 20) : keyVals[j]? = some (.string (keyAt j)) := by
  unfold keyVals
  rw [List.getElem?_map, List.getElem?_range hj]
  rfl

theorem keyVals_len : keyVals.length = 20 := by unfold keyVals; simp

theorem keyVals_at (w : World) (ht : Tabs w) : w.rangeAt 2 0 keyVals := by
  intro j v hv
  have hj : j < 20 := by
    have := (List.getElem?_eq_some_iff.1 hv).1
    rwa [keyVals_len] at this
  rw [keyVals_get j hj] at hv
  rw [Nat.zero_add, ht.keys j hj, hv]

theorem cellsKeys : (Tryd.prog.info? 108).map (·.size) = some keyVals.length := by kernel_rfl

theorem keyFrom_yes (k : Nat) (s : ByteArray) (hk : k < 20) (h : (s.toList == (keyAt k).toList) = true) : keyFrom k s = true := by
  have hl : k < keyList.length := hk
  have hg : keyList.getD k [] = keyList[k] := by simp [hl]
  unfold keyFrom
  rw [List.drop_eq_getElem_cons hl, List.contains_cons]
  have : (s.data.toList == keyList[k]) = true := by
    rw [← hg]
    rw [ByteArray.toList_eq, ByteArray.toList_eq] at h
    simpa [keyAt] using h
  rw [this]
  rfl

theorem keyFrom_no (k : Nat) (s : ByteArray) (hk : k < 20) (h : (s.toList == (keyAt k).toList) = false) : keyFrom k s = keyFrom (k + 1) s := by
  have hl : k < keyList.length := hk
  have hg : keyList.getD k [] = keyList[k] := by simp [hl]
  unfold keyFrom
  rw [List.drop_eq_getElem_cons hl, List.contains_cons]
  have : (s.data.toList == keyList[k]) = false := by
    rw [← hg]
    rw [ByteArray.toList_eq, ByteArray.toList_eq] at h
    simpa [keyAt] using h
  rw [this]
  rfl

theorem keyFrom_end (s : ByteArray) : keyFrom 20 s = false := rfl

theorem run_index_agg {P : Program} {t e : TypeId} {len k : Nat} {cs : List Value} {v : Value} (ht : P.underlying t = some (.array len e)) (he : ∀ w, (isAgg e).run P w = .ok false w) (hs : (P.info? e).map (·.size) = some 1)
    (hk : k < len) (hv : cs[k]? = some v) (w : World) : (Instr.index t (.agg cs.toArray) (.int .i64 k)).run P w = .ok v w := by
  cases hq : P.info? e with
  | none => simp [hq] at hs
  | some i =>
    have hs' : i.size = 1 := by simpa [hq] using hs
    have h2 : ((k : Int) < (len : Int)) := by omega
    have h3 : (0 : Int) ≤ (k : Int) := by omega
    simp [Instr.index, asIntOf, run_underlying ht, part, he, sizeOf, typeInfo, hq, hs', hv]
    omega

theorem strAgg (w : World) : (isAgg 9).run Tryd.prog w = .ok false w := by
  unfold isAgg
  rw [Sem.run_bind, run_underlying Tryd.underlying9 w]
  rfl
theorem strSize : (Tryd.prog.info? 9).map (·.size) = some 1 := by kernel_rfl

set_option maxHeartbeats 400000 in
theorem isKey_any (s : ByteArray) (w : World) (ht : Tabs w) :
    Calls Tryd.prog 42 #[.string s] w fun e w' => e = .returned (.bool (isKeyB s)) ∧ w = w' := by
  have hr := Lib.hid (keyVals_at w ht)
  go_enter Tryd.func42, Tryd.ntmps42
  go_wp2_with (with_reducible refine wpList_load_mid rfl 108 (.global 2) rfl 2 0 rfl keyVals _ hr.out Tryd.underlying108 rfl cellsKeys ?_)
  go_loop [6] (fun i => ∃ k : Nat, k ≤ 20 ∧ i = .int .i64 k ∧ keyFrom k s = isKeyB s) (fun i => 20 - (intOf i).toNat)
  case atStart => exact ⟨0, by omega, rfl, rfl⟩
  case round =>
    obtain ⟨k, hk, rfl, hrl⟩ := hrel
    have HR := Lib.hid hrl
    clear hrl
    by_cases hlt : k < 20
    · have hidx := run_index_agg (P := Tryd.prog) Tryd.underlying108 strAgg strSize hlt (keyVals_get k hlt) w
      have hlt' : (k : Int) < 20 := by omega
      cases hc : (s.toList == (keyAt k).toList)
      · have HN := Lib.hid ((keyFrom_no k s hlt hc).symm.trans HR.out)
        go_wp2
        go_round
        case rel => exact ⟨k + 1, by omega, by go_num, HN.out⟩
        case measure => simp [intOf]; omega
      · have HN := Lib.hid ((keyFrom_yes k s hlt hc).symm.trans HR.out)
        go_wp2
        go_ret
        exact ⟨ret_bool HN.out, rfl⟩
    · obtain rfl : k = 20 := by omega
      have HN := Lib.hid ((keyFrom_end s).symm.trans HR.out)
      go_wp2
      go_ret
      exact ⟨ret_bool HN.out, rfl⟩
end

section
open Go.RowKit

def at0 (s : ByteArray) : Int := ((s.data.toList.headD 0).toNat : Int)

def isNameB (s : ByteArray) : Bool := decide (1 ≤ s.size) && decide (s.size ≤ 16) && isLI (at0 s) && decide (endOf isWI s 0 = s.size) && !isKeyB s

theorem isKeyB_eq (s : ByteArray) : isKeyB s = (s.toList == [116, 121, 112, 101] || (s.toList == [102, 110] || (s.toList == [111, 119, 110] || (s.toList == [99, 101, 108, 108] || (s.toList == [99, 111, 117, 110, 116, 101, 100] || (s.toList == [108, 111, 99, 107] || (s.toList == [103, 117, 97, 114, 100] || (s.toList == [119, 104, 101, 114, 101] || (s.toList == [105, 110, 116] || (s.toList == [109, 117, 116] || (s.toList == [102, 114, 101, 101] || (s.toList == [117, 110, 108, 111, 99, 107] || (s.toList == [105, 102] || (s.toList == [101, 108, 115, 101] || (s.toList == [119, 104, 105, 108, 101] || (s.toList == [114, 101, 116, 117, 114, 110] || (s.toList == [97, 98, 111, 114, 116] || (s.toList == [102, 111, 114, 107] || (s.toList == [110, 101, 119] || s.toList == [97, 114, 114, 97, 121]))))))))))))))))))) := by
  unfold isKeyB keyFrom keyList
  rw [ByteArray.toList_eq]
  simp only [List.drop_zero, List.contains_cons, List.contains_nil, Bool.or_false]

theorem at0_eq (s : ByteArray) (h : 0 < s.size) : at0 s = (s[0].toNat : Int) := by
  have := drop_at s 0 h
  rw [List.drop_zero] at this
  unfold at0
  rw [this]
  rfl

theorem toList_len (s : ByteArray) : s.toList.length = s.size := by
  rw [ByteArray.toList_eq]
  exact Array.length_toList

theorem toList_ne (s : ByteArray) (h : 0 < s.size) : ¬ s.toList = [] := by
  intro e
  have := toList_len s
  rw [e] at this
  simp at this
  omega

theorem toList_nil (s : ByteArray) (h : s.size = 0) : s.toList = [] := List.eq_nil_of_length_eq_zero ((toList_len s).trans h)

theorem isName_none (s : ByteArray) (h : s.size = 0) : isNameB s = false := by unfold isNameB; simp [h]
theorem isName_long (s : ByteArray) (h : 16 < s.size) : isNameB s = false := by
  have : ¬ s.size ≤ 16 := by omega
  unfold isNameB; simp [this]
theorem isName_first (s : ByteArray) (h : 0 < s.size) (h1 : ¬ isLI (s[0].toNat : Int) = true) : isNameB s = false := by
  unfold isNameB; rw [at0_eq s h]; simp [h1]
theorem isName_run (s : ByteArray) (h1 : ¬ (endOf isWI s 0 : Int) = (s.size : Int)) : isNameB s = false := by
  have : ¬ endOf isWI s 0 = s.size := by omega
  unfold isNameB; simp [this]
theorem isName_key (s : ByteArray) (h : 0 < s.size) (h2 : s.size ≤ 16) (h1 : isLI (s[0].toNat : Int) = true) (h3 : (endOf isWI s 0 : Int) = (s.size : Int)) : isNameB s = !isKeyB s := by
  have h3' : endOf isWI s 0 = s.size := by omega
  have h4 : 1 ≤ s.size := h
  unfold isNameB; rw [at0_eq s h]; simp [h1, h2, h3', h4]
end

section
open Go.RowKit

structure Tok where
  kind : Nat
  text : ByteArray
  num : Nat
  place : Nat

def zeroTok : Tok := ⟨0, ⟨#[]⟩, 0, 0⟩

def tokCells (t : Tok) : List Value := [.int .i64 t.kind, .string t.text, .int .i64 t.num, .int .i64 t.place]
def tokV (t : Tok) : Value := .agg #[.int .i64 t.kind, .string t.text, .int .i64 t.num, .int .i64 t.place]

/- What is answered: the token and OK, or the zero token and the error. -/
def okR (t : Tok) : Ending := .returned (.tuple #[tokV t, .int .i64 0])
def errR (e : Int) : Ending := .returned (.tuple #[tokV zeroTok, .int .i64 e])

def resR : Except Int Tok → Ending
  | .ok t => okR t
  | .error e => errR e

def wordTok (s : ByteArray) (k : Nat) : Except Int Tok :=
  if 16 < endOf isWI s k - k then .error 13
  else if isKeyB (s.extract k (endOf isWI s k)) = true then .ok ⟨2, s.extract k (endOf isWI s k), 0, k⟩
  else .ok ⟨1, s.extract k (endOf isWI s k), 0, k⟩

theorem Tabs.alloc {w : World} {o : Obj} (h : Tabs w) : Tabs (w.alloc o) := h.below ((Below.refl _ _).alloc (Nat.le_refl _) o) h.size

set_option maxHeartbeats 400000 in
theorem wordAt_any (s : ByteArray) (k : Nat) (w : World) (hs : s.size ≤ maxLen) (hk : k < s.size) (ht : Tabs w) :
    Calls Tryd.prog 29 #[.string s, .int .i64 k] w fun e w' => e = resR (wordTok s k) ∧ Below w.heap.size w w' := by
  have hge := endOf_ge isWI s k
  have hle := endOf_le isWI s k (by omega)
  generalize hE : endOf isWI s k = E at *
  have HE := Lib.hid hE
  clear hE
  go_enter Tryd.func29, Tryd.ntmps29
  go_wp2_with fail
  refine (runEnd_word _ _ _ hs (by omega) (by omega)).mono ?_
  rintro e w' ⟨rfl, rfl⟩
  rw [Int.toNat_natCast, HE.out]
  go_wp2_with fail
  · have hr : wordTok s k = .error 13 := by unfold wordTok; rw [HE.out, if_pos (by omega)]
    rw [hr]
    exact bodyPost_ret (v := .tuple #[tokV zeroTok, .int .i64 13]) (by simp [results, Tryd.results29, go_sem, tokV, zeroTok]) rfl ⟨rfl, (Below.refl _ _).alloc (Nat.le_refl _) _⟩
  · cases hkey : isKeyB (s.extract k E)
    · have hr : wordTok s k = .ok ⟨1, s.extract k E, 0, k⟩ := by unfold wordTok; rw [HE.out, if_neg (by omega), if_neg (by simp [hkey])]
      have HR := Lib.hid hr
      clear hr
      refine (isKey_any _ _ ht.alloc).mono ?_
      rintro e w' ⟨rfl, rfl⟩
      rw [hkey]
      go_wp2
      rw [HR.out]
      exact bodyPost_ret (v := .tuple #[tokV ⟨1, s.extract k E, 0, k⟩, .int .i64 0]) (by simp [results, Tryd.results29, go_sem, tokV]) rfl ⟨rfl, by go_grown⟩
    · have hr : wordTok s k = .ok ⟨2, s.extract k E, 0, k⟩ := by unfold wordTok; rw [HE.out, if_neg (by omega), if_pos (by simp [hkey])]
      have HR := Lib.hid hr
      clear hr
      refine (isKey_any _ _ ht.alloc).mono ?_
      rintro e w' ⟨rfl, rfl⟩
      rw [hkey]
      go_wp2
      rw [HR.out]
      exact bodyPost_ret (v := .tuple #[tokV ⟨2, s.extract k E, 0, k⟩, .int .i64 0]) (by simp [results, Tryd.results29, go_sem, tokV]) rfl ⟨rfl, by go_grown⟩
end

section
open Go.RowKit

def hasPre (s p : ByteArray) : Bool := decide (p.size ≤ s.size) && (s.extract 0 p.size).toList == p.toList

def singles : List UInt8 := [123, 125, 40, 41, 91, 93, 44, 58, 59, 61, 43, 45, 38, 60]
def isSingle (b : UInt8) : Bool := !decide (Lib.indexByte singles b < 0)

def bat (s : ByteArray) (k : Nat) : UInt8 := s.data.toList.getD k 0

theorem bat_eq (s : ByteArray) (k : Nat) (h : k < s.size) : bat s k = s[k] := by
  unfold bat
  rw [List.getD_eq_getElem?_getD, List.getElem?_eq_getElem (by simpa using h)]
  rfl

def signEnd (s : ByteArray) (k : Nat) : Except Int Tok :=
  if isSingle (bat s k) = true then .ok ⟨4, s.extract k (k + 1), 0, k⟩ else .error 11

def signFrom (s : ByteArray) (k : Nat) : Nat → Except Int Tok
  | 0 => signEnd s k
  | n + 1 => if hasPre (s.extract k s.size) (pairAt (2 - n)) = true then .ok ⟨4, pairAt (2 - n), 0, k⟩ else signFrom s k n

def signTok (s : ByteArray) (k : Nat) : Except Int Tok := signFrom s k 3

theorem signFrom_yes {s : ByteArray} {k i : Nat} (hi : i < 3) (h : hasPre (s.extract k s.size) (pairAt i) = true) : signFrom s k (3 - i) = .ok ⟨4, pairAt i, 0, k⟩ := by
  have e : 3 - i = (2 - i) + 1 := by omega
  have e2 : 2 - (2 - i) = i := by omega
  rw [e, signFrom, e2, if_pos h]

theorem signFrom_no {s : ByteArray} {k i : Nat} (hi : i < 3) (h : hasPre (s.extract k s.size) (pairAt i) = false) : signFrom s k (3 - i) = signFrom s k (3 - (i + 1)) := by
  have e : 3 - i = (2 - i) + 1 := by omega
  have e2 : 2 - (2 - i) = i := by omega
  have e3 : 3 - (i + 1) = 2 - i := by omega
  rw [e, signFrom, e2, if_neg (by simp [h]), e3]

set_option maxHeartbeats 400000 in
theorem hasPrefixLite_any (s p : ByteArray) (w : World) (_hs : s.size ≤ maxLen) (_hp : p.size ≤ maxLen) :
    Calls Tryd.prog 54 #[.string s, .string p] w fun e w' => e = .returned (.bool (hasPre s p)) ∧ w = w' := by
  by_cases h : p.size ≤ s.size
  · have hd : decide (p.size ≤ s.size) = true := by simpa using h
    have HP := Lib.hid (show hasPre s p = ((s.extract 0 p.size).toList == p.toList) by unfold hasPre; rw [hd]; rfl)
    go_enter Tryd.func54, Tryd.ntmps54
    go_wp2
    all_goals go_ret
    all_goals exact ⟨ret_bool HP.out.symm, rfl⟩
  · have hd : decide (p.size ≤ s.size) = false := by simpa using h
    have HP := Lib.hid (show hasPre s p = false by unfold hasPre; rw [hd]; rfl)
    go_enter Tryd.func54, Tryd.ntmps54
    go_wp2
    all_goals go_ret
    all_goals exact ⟨ret_bool HP.out.symm, rfl⟩

set_option maxHeartbeats 400000 in
theorem hasPrefix_any (s p : ByteArray) (w : World) (hs : s.size ≤ maxLen) (hp : p.size ≤ maxLen) :
    Calls Tryd.prog 43 #[.string s, .string p] w fun e w' => e = .returned (.bool (hasPre s p)) ∧ w = w' := by
  go_enter Tryd.func43, Tryd.ntmps43
  go_wp2_with (go_at_call 54; refine (hasPrefixLite_any _ _ _ hs hp).mono ?_; rintro e w' ⟨rfl, rfl⟩)
  go_ret
  exact ⟨rfl, rfl⟩

set_option maxHeartbeats 400000 in
theorem indexByteLite_any (s : ByteArray) (c : Int) (w : World) :
    Calls Tryd.prog 55 #[.string s, .int .u8 c] w fun e w' => e = .returned (.int .i64 (Lib.indexByte s.data.toList c.toNat.toUInt8)) ∧ w = w' := by
  have hcall : (callFunc 72 #[.string s, .int .u8 c]).run Tryd.prog w = .ok (.value (.int .i64 (Lib.indexByte s.data.toList c.toNat.toUInt8))) w := by
    rw [run_callFunc_extern Tryd.func72 (by kernel_rfl) (by kernel_rfl) (by kernel_rfl) (e := Extern.BytealgIndexByte.indexByte) (by kernel_rfl), Lib.run_indexByteString]
    rfl
  go_enter Tryd.func55, Tryd.ntmps55
  go_wp2
  go_ret
  exact ⟨rfl, rfl⟩

set_option maxHeartbeats 400000 in
theorem indexByte_any (s : ByteArray) (c : Int) (w : World) :
    Calls Tryd.prog 44 #[.string s, .int .u8 c] w fun e w' => e = .returned (.int .i64 (Lib.indexByte s.data.toList c.toNat.toUInt8)) ∧ w = w' := by
  go_enter Tryd.func44, Tryd.ntmps44
  go_wp2_with (go_at_call 55; refine (indexByteLite_any _ _ _).mono ?_; rintro e w' ⟨rfl, rfl⟩)
  go_ret
  exact ⟨rfl, rfl⟩

theorem extract_le (s : ByteArray) (a b : Nat) : (s.extract a b).size ≤ s.size := by
  rw [ByteArray.size_extract]
  omega

def pairVals : List Value := [.string (pairAt 0), .string (pairAt 1), .string (pairAt 2)]

theorem pairVals_get (j : Nat) (hj : j < 3) : pairVals[j]? = some (.string (pairAt j)) := by
  match j, hj with
  | 0, _ => rfl
  | 1, _ => rfl
  | 2, _ => rfl

theorem pairVals_at (w : World) (ht : Tabs w) : w.rangeAt 1 0 pairVals := by
  intro j v hv
  have hj : j < 3 := (List.getElem?_eq_some_iff.1 hv).1
  rw [pairVals_get j hj] at hv
  rw [Nat.zero_add, ht.pairs j hj, hv]

theorem cellsPairs : (Tryd.prog.info? 99).map (·.size) = some pairVals.length := by kernel_rfl

theorem pairAt_size (i : Nat) (hi : i < 3) : (pairAt i).size = 2 := by
  match i, hi with
  | 0, _ => rfl
  | 1, _ => rfl
  | 2, _ => rfl

theorem singles_eq (b : UInt8) : Lib.indexByte (ByteArray.mk #[123, 125, 40, 41, 91, 93, 44, 58, 59, 61, 43, 45, 38, 60]).data.toList ((b.toNat : Int)).toNat.toUInt8 = Lib.indexByte singles b := by
  simp [singles]

set_option maxHeartbeats 400000 in
theorem signAt_any (s : ByteArray) (k : Nat) (w : World) (hs : s.size ≤ maxLen) (hk : k < s.size) (ht : Tabs w) :
    Calls Tryd.prog 32 #[.string s, .int .i64 k] w fun e w' => e = resR (signTok s k) ∧ Below w.heap.size w w' := by
  have hr := Lib.hid (pairVals_at _ (ht.alloc (o := .cells #[.int .i64 0, .string ⟨#[]⟩, .int .i64 0, .int .i64 0] 75)))
  have hs' := hs
  unfold maxLen at hs'
  go_enter Tryd.func32, Tryd.ntmps32
  go_wp2_with (with_reducible refine wpList_load_mid rfl 99 (.global 1) rfl 1 0 rfl pairVals _ hr.out Tryd.underlying99 rfl cellsPairs ?_)
  go_loop [9] (fun i => ∃ n : Nat, n ≤ 3 ∧ i = .int .i64 n ∧ signFrom s k (3 - n) = signTok s k) (fun i => 3 - (intOf i).toNat)
  case atStart => exact ⟨0, by omega, rfl, rfl⟩
  case round =>
    obtain ⟨n, hn, rfl, hrl⟩ := hrel
    have HR := Lib.hid hrl
    clear hrl
    by_cases hlt : n < 3
    · have hidx := fun W => run_index_agg (P := Tryd.prog) Tryd.underlying99 strAgg strSize hlt (pairVals_get n hlt) W
      have hlt' : (n : Int) < 3 := by omega
      have hx : (s.extract k s.size).size ≤ maxLen := Nat.le_trans (extract_le s k s.size) hs
      have hp2 : (pairAt n).size ≤ maxLen := by rw [pairAt_size n hlt]; unfold maxLen; omega
      cases hc : hasPre (s.extract k s.size) (pairAt n)
      · have HN := Lib.hid ((signFrom_no hlt hc).symm.trans HR.out)
        go_wp2_with (go_at_call 43; refine (hasPrefix_any _ _ _ hx hp2).mono ?_; rintro e w' ⟨rfl, rfl⟩)
        go_round
        case rel => exact ⟨n + 1, by omega, by go_num, HN.out⟩
        case measure => simp [intOf]; omega
      · have HN := Lib.hid ((signFrom_yes hlt hc).symm.trans HR.out)
        go_wp2_with (go_at_call 43; refine (hasPrefix_any _ _ _ hx hp2).mono ?_; rintro e w' ⟨rfl, rfl⟩)
        rw [← HN.out]
        exact bodyPost_ret (v := .tuple #[tokV ⟨4, pairAt n, 0, k⟩, .int .i64 0]) (by simp [results, Tryd.results32, go_sem, tokV]) rfl ⟨rfl, by go_grown⟩
    · obtain rfl : n = 3 := by omega
      have hfin : signEnd s k = signTok s k := HR.out
      have HF := Lib.hid hfin
      clear hfin
      cases hc : isSingle s[k]
      · have hneg : Lib.indexByte singles s[k] < 0 := by unfold isSingle at hc; simpa using hc
        have hfin : signTok s k = .error 11 := by rw [← HF.out, signEnd, bat_eq s k hk, if_neg (by simp [hc])]
        have HE := Lib.hid hfin
        clear hfin hc
        go_wp2_with (go_at_call 44; refine (indexByte_any _ _ _).mono ?_; rintro e w' ⟨rfl, rfl⟩; rw [singles_eq])
        rw [HE.out]
        exact bodyPost_ret (v := .tuple #[tokV zeroTok, .int .i64 11]) (by simp [results, Tryd.results32, go_sem, tokV, zeroTok]) rfl ⟨rfl, by go_grown⟩
      · have hneg : ¬ Lib.indexByte singles s[k] < 0 := by unfold isSingle at hc; simpa using hc
        have hfin : signTok s k = .ok ⟨4, s.extract k (k + 1), 0, k⟩ := by rw [← HF.out, signEnd, bat_eq s k hk, if_pos (by simp [hc])]
        have HE := Lib.hid hfin
        clear hfin hc
        go_wp2_with (go_at_call 44; refine (indexByte_any _ _ _).mono ?_; rintro e w' ⟨rfl, rfl⟩; rw [singles_eq])
        rw [HE.out]
        exact bodyPost_ret (v := .tuple #[tokV ⟨4, s.extract k (k + 1), 0, k⟩, .int .i64 0]) (by simp [results, Tryd.results32, go_sem, tokV]) rfl ⟨rfl, by go_grown⟩
end

end Go.Proofs.YtdkdidgeaalcgaaDoor
