/- The contracts of strings.HasPrefix, strings.IndexByte and lex.signAt: the token of the sign at a place, the longer one where two could stand, or ErrByte; nothing that was in memory is changed. lex.signAt in a world that holds the tables of lex. -/
import Derived.Test.YtflhniiemmahmaaDoorWord
import Derived.Lib.Bytealg
namespace Go.Proofs.YtflhniiemmahmaaDoor
open Go.RowKit

def hasPre (s p : ByteArray) : Bool := decide (p.size ≤ s.size) && (s.extract 0 p.size).toList == p.toList

def singles : List UInt8 := [123, 125, 40, 41, 91, 93, 44, 58, 59, 61, 43, 45, 38, 60]
def isSingle (b : UInt8) : Bool := !decide (Lib.indexByte singles b < 0)

def bat (s : ByteArray) (k : Nat) : UInt8 := s.data.toList.getD k 0

theorem bat_eq (s : ByteArray) (k : Nat) (h : k < s.size) : bat s k = s[k] := by
  unfold bat
  rw [List.getD_eq_getElem?_getD, List.getElem?_eq_getElem (by simpa using h)]
  rfl

def signEnd (s : ByteArray) (k : Nat) : Except Int Tok :=
  if isSingle (bat s k) = true then .ok ⟨4, s.extract k (k + 1), 0, k⟩ else .error 11

def signFrom (s : ByteArray) (k : Nat) : Nat → Except Int Tok
  | 0 => signEnd s k
  | n + 1 => if hasPre (s.extract k s.size) (pairAt (2 - n)) = true then .ok ⟨4, pairAt (2 - n), 0, k⟩ else signFrom s k n

def signTok (s : ByteArray) (k : Nat) : Except Int Tok := signFrom s k 3

theorem signFrom_yes {s : ByteArray} {k i : Nat} (hi : i < 3) (h : hasPre (s.extract k s.size) (pairAt i) = true) : signFrom s k (3 - i) = .ok ⟨4, pairAt i, 0, k⟩ := by
  have e : 3 - i = (2 - i) + 1 := by omega
  have e2 : 2 - (2 - i) = i := by omega
  rw [e, signFrom, e2, if_pos h]

theorem signFrom_no {s : ByteArray} {k i : Nat} (hi : i < 3) (h : hasPre (s.extract k s.size) (pairAt i) = false) : signFrom s k (3 - i) = signFrom s k (3 - (i + 1)) := by
  have e : 3 - i = (2 - i) + 1 := by omega
  have e2 : 2 - (2 - i) = i := by omega
  have e3 : 3 - (i + 1) = 2 - i := by omega
  rw [e, signFrom, e2, if_neg (by simp [h]), e3]

set_option maxHeartbeats 400000 in
theorem hasPrefixLite_any (s p : ByteArray) (w : World) (_hs : s.size ≤ maxLen) (_hp : p.size ≤ maxLen) :
    Calls Tryd.prog 65 #[.string s, .string p] w fun e w' => e = .returned (.bool (hasPre s p)) ∧ w = w' := by
  by_cases h : p.size ≤ s.size
  · have hd : decide (p.size ≤ s.size) = true := by simpa using h
    have HP := Lib.hid (show hasPre s p = ((s.extract 0 p.size).toList == p.toList) by unfold hasPre; rw [hd]; rfl)
    go_enter Tryd.func65, Tryd.ntmps65
    go_wp2
    all_goals go_ret
    all_goals exact ⟨ret_bool HP.out.symm, rfl⟩
  · have hd : decide (p.size ≤ s.size) = false := by simpa using h
    have HP := Lib.hid (show hasPre s p = false by unfold hasPre; rw [hd]; rfl)
    go_enter Tryd.func65, Tryd.ntmps65
    go_wp2
    all_goals go_ret
    all_goals exact ⟨ret_bool HP.out.symm, rfl⟩

set_option maxHeartbeats 400000 in
theorem hasPrefix_any (s p : ByteArray) (w : World) (hs : s.size ≤ maxLen) (hp : p.size ≤ maxLen) :
    Calls Tryd.prog 55 #[.string s, .string p] w fun e w' => e = .returned (.bool (hasPre s p)) ∧ w = w' := by
  go_enter Tryd.func55, Tryd.ntmps55
  go_wp2_with (go_at_call 65; refine (hasPrefixLite_any _ _ _ hs hp).mono ?_; rintro e w' ⟨rfl, rfl⟩)
  go_ret
  exact ⟨rfl, rfl⟩

set_option maxHeartbeats 400000 in
theorem indexByteLite_any (s : ByteArray) (c : Int) (w : World) :
    Calls Tryd.prog 66 #[.string s, .int .u8 c] w fun e w' => e = .returned (.int .i64 (Lib.indexByte s.data.toList c.toNat.toUInt8)) ∧ w = w' := by
  have hcall : (callFunc 81 #[.string s, .int .u8 c]).run Tryd.prog w = .ok (.value (.int .i64 (Lib.indexByte s.data.toList c.toNat.toUInt8))) w := by
    rw [run_callFunc_extern Tryd.func81 (by kernel_rfl) (by kernel_rfl) (by kernel_rfl) (e := Extern.BytealgIndexByte.indexByte) (by kernel_rfl), Lib.run_indexByteString]
    rfl
  go_enter Tryd.func66, Tryd.ntmps66
  go_wp2
  go_ret
  exact ⟨rfl, rfl⟩

set_option maxHeartbeats 400000 in
theorem indexByte_any (s : ByteArray) (c : Int) (w : World) :
    Calls Tryd.prog 56 #[.string s, .int .u8 c] w fun e w' => e = .returned (.int .i64 (Lib.indexByte s.data.toList c.toNat.toUInt8)) ∧ w = w' := by
  go_enter Tryd.func56, Tryd.ntmps56
  go_wp2_with (go_at_call 66; refine (indexByteLite_any _ _ _).mono ?_; rintro e w' ⟨rfl, rfl⟩)
  go_ret
  exact ⟨rfl, rfl⟩

theorem extract_le (s : ByteArray) (a b : Nat) : (s.extract a b).size ≤ s.size := by
  rw [ByteArray.size_extract]
  omega

def pairVals : List Value := [.string (pairAt 0), .string (pairAt 1), .string (pairAt 2)]

theorem pairVals_get (j : Nat) (hj : j < 3) : pairVals[j]? = some (.string (pairAt j)) := by
  match j, hj with
  | 0, _ => rfl
  | 1, _ => rfl
  | 2, _ => rfl

theorem pairVals_at (w : World) (ht : Tabs w) : w.rangeAt 1 0 pairVals := by
  intro j v hv
  have hj : j < 3 := (List.getElem?_eq_some_iff.1 hv).1
  rw [pairVals_get j hj] at hv
  rw [Nat.zero_add, ht.pairs j hj, hv]

theorem cellsPairs : (Tryd.prog.info? 85).map (·.size) = some pairVals.length := by kernel_rfl

theorem pairAt_size (i : Nat) (hi : i < 3) : (pairAt i).size = 2 := by
  match i, hi with
  | 0, _ => rfl
  | 1, _ => rfl
  | 2, _ => rfl

theorem singles_eq (b : UInt8) : Lib.indexByte (ByteArray.mk #[123, 125, 40, 41, 91, 93, 44, 58, 59, 61, 43, 45, 38, 60]).data.toList ((b.toNat : Int)).toNat.toUInt8 = Lib.indexByte singles b := by
  simp [singles]

set_option maxHeartbeats 400000 in
theorem signAt_any (s : ByteArray) (k : Nat) (w : World) (hs : s.size ≤ maxLen) (hk : k < s.size) (ht : Tabs w) :
    Calls Tryd.prog 43 #[.string s, .int .i64 k] w fun e w' => e = resR (signTok s k) ∧ Below w.heap.size w w' := by
  have hr := Lib.hid (pairVals_at _ (ht.alloc (o := .cells #[.int .i64 0, .string ⟨#[]⟩, .int .i64 0, .int .i64 0] 50)))
  have hs' := hs
  unfold maxLen at hs'
  go_enter Tryd.func43, Tryd.ntmps43
  go_wp2_with (with_reducible refine wpList_load_mid rfl 85 (.global 1) rfl 1 0 rfl pairVals _ hr.out Tryd.underlying85 rfl cellsPairs ?_)
  go_loop [9] (fun i => ∃ n : Nat, n ≤ 3 ∧ i = .int .i64 n ∧ signFrom s k (3 - n) = signTok s k) (fun i => 3 - (intOf i).toNat)
  case atStart => exact ⟨0, by omega, rfl, rfl⟩
  case round =>
    obtain ⟨n, hn, rfl, hrl⟩ := hrel
    have HR := Lib.hid hrl
    clear hrl
    by_cases hlt : n < 3
    · have hidx := fun W => run_index_agg (P := Tryd.prog) Tryd.underlying85 strAgg strSize hlt (pairVals_get n hlt) W
      have hlt' : (n : Int) < 3 := by omega
      have hx : (s.extract k s.size).size ≤ maxLen := Nat.le_trans (extract_le s k s.size) hs
      have hp2 : (pairAt n).size ≤ maxLen := by rw [pairAt_size n hlt]; unfold maxLen; omega
      cases hc : hasPre (s.extract k s.size) (pairAt n)
      · have HN := Lib.hid ((signFrom_no hlt hc).symm.trans HR.out)
        go_wp2_with (go_at_call 55; refine (hasPrefix_any _ _ _ hx hp2).mono ?_; rintro e w' ⟨rfl, rfl⟩)
        go_round
        case rel => exact ⟨n + 1, by omega, by go_num, HN.out⟩
        case measure => simp [intOf]; omega
      · have HN := Lib.hid ((signFrom_yes hlt hc).symm.trans HR.out)
        go_wp2_with (go_at_call 55; refine (hasPrefix_any _ _ _ hx hp2).mono ?_; rintro e w' ⟨rfl, rfl⟩)
        rw [← HN.out]
        exact bodyPost_ret (v := .tuple #[tokV ⟨4, pairAt n, 0, k⟩, .int .i64 0]) (by simp [results, Tryd.results43, go_sem, tokV]) rfl ⟨rfl, by go_grown⟩
    · obtain rfl : n = 3 := by omega
      have hfin : signEnd s k = signTok s k := HR.out
      have HF := Lib.hid hfin
      clear hfin
      cases hc : isSingle s[k]
      · have hneg : Lib.indexByte singles s[k] < 0 := by unfold isSingle at hc; simpa using hc
        have hfin : signTok s k = .error 11 := by rw [← HF.out, signEnd, bat_eq s k hk, if_neg (by simp [hc])]
        have HE := Lib.hid hfin
        clear hfin hc
        go_wp2_with (go_at_call 56; refine (indexByte_any _ _ _).mono ?_; rintro e w' ⟨rfl, rfl⟩; rw [singles_eq])
        rw [HE.out]
        exact bodyPost_ret (v := .tuple #[tokV zeroTok, .int .i64 11]) (by simp [results, Tryd.results43, go_sem, tokV, zeroTok]) rfl ⟨rfl, by go_grown⟩
      · have hneg : ¬ Lib.indexByte singles s[k] < 0 := by unfold isSingle at hc; simpa using hc
        have hfin : signTok s k = .ok ⟨4, s.extract k (k + 1), 0, k⟩ := by rw [← HF.out, signEnd, bat_eq s k hk, if_pos (by simp [hc])]
        have HE := Lib.hid hfin
        clear hfin hc
        go_wp2_with (go_at_call 56; refine (indexByte_any _ _ _).mono ?_; rintro e w' ⟨rfl, rfl⟩; rw [singles_eq])
        rw [HE.out]
        exact bodyPost_ret (v := .tuple #[tokV ⟨4, s.extract k (k + 1), 0, k⟩, .int .i64 0]) (by simp [results, Tryd.results43, go_sem, tokV]) rfl ⟨rfl, by go_grown⟩

end Go.Proofs.YtflhniiemmahmaaDoor
