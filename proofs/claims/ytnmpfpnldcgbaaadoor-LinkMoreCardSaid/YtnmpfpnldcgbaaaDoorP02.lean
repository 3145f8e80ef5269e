/- The contracts of strings.HasPrefix, strings.IndexByte and lex.signAt: the token of the sign at a place, the longer one where two could stand, or ErrByte; nothing that was in memory is changed. lex.signAt in a world that holds the tables of lex. The contract of lex.numberAt: the token of the number at a place, or ErrNumber; nothing that was in memory is changed. The contract of lex.tokenAt in a world that holds the tables of lex: the token at a place that is no blank, or the fault there; nothing that was in memory is changed. -/
import Derived.Test.YtnmpfpnldcgbaaaDoorP01
import Derived.Lib.Bytealg
namespace Go.Proofs.YtnmpfpnldcgbaaaDoor
section
open Go.RowKit

def hasPre (s p : ByteArray) : Bool := decide (p.size ≤ s.size) && (s.extract 0 p.size).toList == p.toList

def singles : List UInt8 := [123, 125, 40, 41, 91, 93, 44, 58, 59, 61, 43, 45, 38, 60]
def isSingle (b : UInt8) : Bool := !decide (Lib.indexByte singles b < 0)

def bat (s : ByteArray) (k : Nat) : UInt8 := s.data.toList.getD k 0

theorem bat_eq (s : ByteArray) (k : Nat) (h : k < s.size) : bat s k = s[k] := by
  unfold bat
  rw [List.getD_eq_getElem?_getD, List.getElem?_eq_getElem (by simpa using h)]
  rfl

def signEnd (s : ByteArray) (k : Nat) : Except Int Tok :=
  if isSingle (bat s k) = true then .ok ⟨4, s.extract k (k + 1), 0, k⟩ else .error 11

def signFrom (s : ByteArray) (k : Nat) : Nat → Except Int Tok
  | 0 => signEnd s k
  | n + 1 => if hasPre (s.extract k s.size) (pairAt (2 - n)) = true then .ok ⟨4, pairAt (2 - n), 0, k⟩ else signFrom s k n

def signTok (s : ByteArray) (k : Nat) : Except Int Tok := signFrom s k 3

theorem signFrom_yes {s : ByteArray} {k i : Nat} (hi : i < 3) (h : hasPre (s.extract k s.size) (pairAt i) = true) : signFrom s k (3 - i) = .ok ⟨4, pairAt i, 0, k⟩ := by
  have e : 3 - i = (2 - i) + 1 := by omega
  have e2 : 2 - (2 - i) = i := by omega
  rw [e, signFrom, e2, if_pos h]

theorem signFrom_no {s : ByteArray} {k i : Nat} (hi : i < 3) (h : hasPre (s.extract k s.size) (pairAt i) = false) : signFrom s k (3 - i) = signFrom s k (3 - (i + 1)) := by
  have e : 3 - i = (2 - i) + 1 := by omega
  have e2 : 2 - (2 - i) = i := by omega
  have e3 : 3 - (i + 1) = 2 - i := by omega
  rw [e, signFrom, e2, if_neg (by simp [h]), e3]

set_option maxHeartbeats 400000 in
theorem hasPrefixLite_any (s p : ByteArray) (w : World) (_hs : s.size ≤ maxLen) (_hp : p.size ≤ maxLen) :
    Calls Tryd.prog 97 #[.string s, .string p] w fun e w' => e = .returned (.bool (hasPre s p)) ∧ w = w' := by
  by_cases h : p.size ≤ s.size
  · have hd : decide (p.size ≤ s.size) = true := by simpa using h
    have HP := Lib.hid (show hasPre s p = ((s.extract 0 p.size).toList == p.toList) by unfold hasPre; rw [hd]; rfl)
    go_enter Tryd.func97, Tryd.ntmps97
    go_wp2
    all_goals go_ret
    all_goals exact ⟨ret_bool HP.out.symm, rfl⟩
  · have hd : decide (p.size ≤ s.size) = false := by simpa using h
    have HP := Lib.hid (show hasPre s p = false by unfold hasPre; rw [hd]; rfl)
    go_enter Tryd.func97, Tryd.ntmps97
    go_wp2
    all_goals go_ret
    all_goals exact ⟨ret_bool HP.out.symm, rfl⟩

set_option maxHeartbeats 400000 in
theorem hasPrefix_any (s p : ByteArray) (w : World) (hs : s.size ≤ maxLen) (hp : p.size ≤ maxLen) :
    Calls Tryd.prog 83 #[.string s, .string p] w fun e w' => e = .returned (.bool (hasPre s p)) ∧ w = w' := by
  go_enter Tryd.func83, Tryd.ntmps83
  go_wp2_with (go_at_call 97; refine (hasPrefixLite_any _ _ _ hs hp).mono ?_; rintro e w' ⟨rfl, rfl⟩)
  go_ret
  exact ⟨rfl, rfl⟩

set_option maxHeartbeats 400000 in
theorem indexByteLite_any (s : ByteArray) (c : Int) (w : World) :
    Calls Tryd.prog 98 #[.string s, .int .u8 c] w fun e w' => e = .returned (.int .i64 (Lib.indexByte s.data.toList c.toNat.toUInt8)) ∧ w = w' := by
  have hcall : (callFunc 113 #[.string s, .int .u8 c]).run Tryd.prog w = .ok (.value (.int .i64 (Lib.indexByte s.data.toList c.toNat.toUInt8))) w := by
    rw [run_callFunc_extern Tryd.func113 (by kernel_rfl) (by kernel_rfl) (by kernel_rfl) (e := Extern.BytealgIndexByte.indexByte) (by kernel_rfl), Lib.run_indexByteString]
    rfl
  go_enter Tryd.func98, Tryd.ntmps98
  go_wp2
  go_ret
  exact ⟨rfl, rfl⟩

set_option maxHeartbeats 400000 in
theorem indexByte_any (s : ByteArray) (c : Int) (w : World) :
    Calls Tryd.prog 84 #[.string s, .int .u8 c] w fun e w' => e = .returned (.int .i64 (Lib.indexByte s.data.toList c.toNat.toUInt8)) ∧ w = w' := by
  go_enter Tryd.func84, Tryd.ntmps84
  go_wp2_with (go_at_call 98; refine (indexByteLite_any _ _ _).mono ?_; rintro e w' ⟨rfl, rfl⟩)
  go_ret
  exact ⟨rfl, rfl⟩

theorem extract_le (s : ByteArray) (a b : Nat) : (s.extract a b).size ≤ s.size := by
  rw [ByteArray.size_extract]
  omega

def pairVals : List Value := [.string (pairAt 0), .string (pairAt 1), .string (pairAt 2)]

theorem pairVals_get (j : Nat) (hj : j < 3) : pairVals[j]? = some (.string (pairAt j)) := by
  match j, hj with
  | 0, _ => rfl
  | 1, _ => rfl
  | 2, _ => rfl

theorem pairVals_at (w : World) (ht : Tabs w) : w.rangeAt 2 0 pairVals := by
  intro j v hv
  have hj : j < 3 := (List.getElem?_eq_some_iff.1 hv).1
  rw [pairVals_get j hj] at hv
  rw [Nat.zero_add, ht.pairs j hj, hv]

theorem cellsPairs : (Tryd.prog.info? 131).map (·.size) = some pairVals.length := by kernel_rfl

theorem pairAt_size (i : Nat) (hi : i < 3) : (pairAt i).size = 2 := by
  match i, hi with
  | 0, _ => rfl
  | 1, _ => rfl
  | 2, _ => rfl

theorem singles_eq (b : UInt8) : Lib.indexByte (ByteArray.mk #[123, 125, 40, 41, 91, 93, 44, 58, 59, 61, 43, 45, 38, 60]).data.toList ((b.toNat : Int)).toNat.toUInt8 = Lib.indexByte singles b := by
  simp [singles]

set_option maxHeartbeats 400000 in
theorem signAt_any (s : ByteArray) (k : Nat) (w : World) (hs : s.size ≤ maxLen) (hk : k < s.size) (ht : Tabs w) :
    Calls Tryd.prog 69 #[.string s, .int .i64 k] w fun e w' => e = resR (signTok s k) ∧ Below w.heap.size w w' := by
  have hr := Lib.hid (pairVals_at _ (ht.alloc (o := .cells #[.int .i64 0, .string ⟨#[]⟩, .int .i64 0, .int .i64 0] 109)))
  have hs' := hs
  unfold maxLen at hs'
  go_enter Tryd.func69, Tryd.ntmps69
  go_wp2_with (with_reducible refine wpList_load_mid rfl 131 (.global 2) rfl 2 0 rfl pairVals _ hr.out Tryd.underlying131 rfl cellsPairs ?_)
  go_loop [9] (fun i => ∃ n : Nat, n ≤ 3 ∧ i = .int .i64 n ∧ signFrom s k (3 - n) = signTok s k) (fun i => 3 - (intOf i).toNat)
  case atStart => exact ⟨0, by omega, rfl, rfl⟩
  case round =>
    obtain ⟨n, hn, rfl, hrl⟩ := hrel
    have HR := Lib.hid hrl
    clear hrl
    by_cases hlt : n < 3
    · have hidx := fun W => run_index_agg (P := Tryd.prog) Tryd.underlying131 strAgg strSize hlt (pairVals_get n hlt) W
      have hlt' : (n : Int) < 3 := by omega
      have hx : (s.extract k s.size).size ≤ maxLen := Nat.le_trans (extract_le s k s.size) hs
      have hp2 : (pairAt n).size ≤ maxLen := by rw [pairAt_size n hlt]; unfold maxLen; omega
      cases hc : hasPre (s.extract k s.size) (pairAt n)
      · have HN := Lib.hid ((signFrom_no hlt hc).symm.trans HR.out)
        go_wp2_with (go_at_call 83; refine (hasPrefix_any _ _ _ hx hp2).mono ?_; rintro e w' ⟨rfl, rfl⟩)
        go_round
        case rel => exact ⟨n + 1, by omega, by go_num, HN.out⟩
        case measure => simp [intOf]; omega
      · have HN := Lib.hid ((signFrom_yes hlt hc).symm.trans HR.out)
        go_wp2_with (go_at_call 83; refine (hasPrefix_any _ _ _ hx hp2).mono ?_; rintro e w' ⟨rfl, rfl⟩)
        rw [← HN.out]
        exact bodyPost_ret (v := .tuple #[tokV ⟨4, pairAt n, 0, k⟩, .int .i64 0]) (by simp [results, Tryd.results69, go_sem, tokV]) rfl ⟨rfl, by go_grown⟩
    · obtain rfl : n = 3 := by omega
      have hfin : signEnd s k = signTok s k := HR.out
      have HF := Lib.hid hfin
      clear hfin
      cases hc : isSingle s[k]
      · have hneg : Lib.indexByte singles s[k] < 0 := by unfold isSingle at hc; simpa using hc
        have hfin : signTok s k = .error 11 := by rw [← HF.out, signEnd, bat_eq s k hk, if_neg (by simp [hc])]
        have HE := Lib.hid hfin
        clear hfin hc
        go_wp2_with (go_at_call 84; refine (indexByte_any _ _ _).mono ?_; rintro e w' ⟨rfl, rfl⟩; rw [singles_eq])
        rw [HE.out]
        exact bodyPost_ret (v := .tuple #[tokV zeroTok, .int .i64 11]) (by simp [results, Tryd.results69, go_sem, tokV, zeroTok]) rfl ⟨rfl, by go_grown⟩
      · have hneg : ¬ Lib.indexByte singles s[k] < 0 := by unfold isSingle at hc; simpa using hc
        have hfin : signTok s k = .ok ⟨4, s.extract k (k + 1), 0, k⟩ := by rw [← HF.out, signEnd, bat_eq s k hk, if_pos (by simp [hc])]
        have HE := Lib.hid hfin
        clear hfin hc
        go_wp2_with (go_at_call 84; refine (indexByte_any _ _ _).mono ?_; rintro e w' ⟨rfl, rfl⟩; rw [singles_eq])
        rw [HE.out]
        exact bodyPost_ret (v := .tuple #[tokV ⟨4, s.extract k (k + 1), 0, k⟩, .int .i64 0]) (by simp [results, Tryd.results69, go_sem, tokV]) rfl ⟨rfl, by go_grown⟩
end

section
open Go.RowKit

/- What the first n digits from place k on say. -/
def numTo (s : ByteArray) (k : Nat) : Nat → Nat
  | 0 => 0
  | n + 1 => numTo s k n * 10 + ((bat s (k + n)).toNat - 48)

theorem numTo_mono (s : ByteArray) (k n m : Nat) : numTo s k n ≤ numTo s k (n + m) := by
  induction m with
  | zero => exact Nat.le_refl _
  | succ m ih =>
    rw [← Nat.add_assoc, numTo]
    omega

def badForm (s : ByteArray) (k : Nat) : Bool :=
  (bat s k == 48 && decide (k + 1 < endOf isDI s k)) || (decide (endOf isDI s k < s.size) && isLI ((bat s (endOf isDI s k)).toNat : Int))

def numTok (s : ByteArray) (k : Nat) : Except Int Tok :=
  if badForm s k = true ∨ 1099511627776 < numTo s k (endOf isDI s k - k) then .error 12
  else .ok ⟨3, s.extract k (endOf isDI s k), numTo s k (endOf isDI s k - k), k⟩

theorem endOf_mem {p : Int → Bool} {s : ByteArray} {k : Nat} : ∀ i, k ≤ i → i < endOf p s k → (h : i < s.size) → p (s[i].toNat : Int) = true := by
  intro i hki hi h
  obtain ⟨d, rfl⟩ := Nat.exists_eq_add_of_le hki
  induction d generalizing k with
  | zero =>
    rcases Bool.eq_false_or_eq_true (p ((s[k]'h).toNat : Int)) with hp | hp
    · exact hp
    · have := endOf_stop (p := p) (s := s) (k := k) (by omega) hp
      omega
  | succ d ih =>
    cases hp : p ((s[k]'(by omega)).toNat : Int)
    · have := endOf_stop (p := p) (s := s) (k := k) (by omega) hp
      omega
    · have := endOf_step (p := p) (s := s) (k := k) (by omega) hp
      have h2 := ih (k := k + 1) (by omega) (by rw [this] at hi; omega) (by omega)
      have e : k + 1 + d = k + (d + 1) := by omega
      simp only [e] at h2
      exact h2

theorem digit_range {n : Int} (h : isDI n = true) : 48 ≤ n ∧ n ≤ 57 := by unfold isDI at h; simpa using h

set_option maxHeartbeats 400000 in
theorem numberAt_bad (s : ByteArray) (k : Nat) (w : World) (hs : s.size ≤ maxLen) (hk : k < s.size) (hb : badForm s k = true) :
    Calls Tryd.prog 68 #[.string s, .int .i64 k] w fun e w' => e = errR 12 ∧ Below w.heap.size w w' := by
  have hs' := hs
  unfold maxLen at hs'
  have hge := endOf_ge isDI s k
  have hle := endOf_le isDI s k (by omega)
  unfold badForm at hb
  rw [bat_eq s k hk] at hb
  generalize hE : endOf isDI s k = E at *
  have HE := Lib.hid hE
  clear hE
  have hz : ((s[k].toNat : Int) == 48) = (s[k] == 48) := by
    rw [Bool.eq_iff_iff]
    simp only [beq_iff_eq, ← UInt8.toNat_inj]
    have : (48 : UInt8).toNat = 48 := rfl
    omega
  have HZ := Lib.hid hz
  clear hz
  by_cases hA : ((s[k].toNat : Int) == 48) = true ∧ k + 1 < E
  · obtain ⟨h1, h2⟩ := hA
    have h3 : (k : Int) + 1 < (E : Int) := by omega
    clear hb
    go_enter Tryd.func68, Tryd.ntmps68
    go_wp2_with (go_at_call 46; refine (runEnd_digit _ _ _ hs (by omega) (by omega)).mono ?_; rintro e w' ⟨rfl, rfl⟩; rw [Int.toNat_natCast, HE.out])
    exact bodyPost_ret (v := .tuple #[tokV zeroTok, .int .i64 12]) (by simp [results, Tryd.results68, go_sem, tokV, zeroTok]) rfl ⟨rfl, by go_grown⟩
  · have hB : E < s.size ∧ isLI ((bat s E).toNat : Int) = true := by
      rw [← HZ.out] at hb
      cases h1 : ((s[k].toNat : Int) == 48)
      · simpa [h1] using hb
      · have : ¬ k + 1 < E := fun h => hA ⟨h1, h⟩
        simpa [h1, this] using hb
    obtain ⟨h1, h2⟩ := hB
    rw [bat_eq s E h1] at h2
    clear hb
    cases h4 : ((s[k].toNat : Int) == 48)
    · clear hA
      go_enter Tryd.func68, Tryd.ntmps68
      go_wp2_with (first
        | (go_at_call 46; refine (runEnd_digit _ _ _ hs (by omega) (by omega)).mono ?_; rintro e w' ⟨rfl, rfl⟩; rw [Int.toNat_natCast, HE.out])
        | (go_at_call 45; refine (beginsWord_any _ _).mono ?_; rintro e w' ⟨rfl, rfl⟩))
      exact bodyPost_ret (v := .tuple #[tokV zeroTok, .int .i64 12]) (by simp [results, Tryd.results68, go_sem, tokV, zeroTok]) rfl ⟨rfl, by go_grown⟩
    · have h5 : ¬ (k : Int) + 1 < (E : Int) := fun h => hA ⟨h4, by omega⟩
      clear hA
      go_enter Tryd.func68, Tryd.ntmps68
      go_wp2_with (first
        | (go_at_call 46; refine (runEnd_digit _ _ _ hs (by omega) (by omega)).mono ?_; rintro e w' ⟨rfl, rfl⟩; rw [Int.toNat_natCast, HE.out])
        | (go_at_call 45; refine (beginsWord_any _ _).mono ?_; rintro e w' ⟨rfl, rfl⟩))
      exact bodyPost_ret (v := .tuple #[tokV zeroTok, .int .i64 12]) (by simp [results, Tryd.results68, go_sem, tokV, zeroTok]) rfl ⟨rfl, by go_grown⟩

def NumPost (s : ByteArray) (k : Nat) (w : World) (e : Ending) (w' : World) : Prop := e = resR (numTok s k) ∧ Below w.heap.size w w'

theorem numTok_great {s : ByteArray} {k d : Nat} (hd : k + d ≤ endOf isDI s k) (h : 1099511627776 < numTo s k d) : numTok s k = .error 12 := by
  unfold numTok
  rw [if_pos]
  right
  have := numTo_mono s k d (endOf isDI s k - k - d)
  rw [show d + (endOf isDI s k - k - d) = endOf isDI s k - k by omega] at this
  omega

theorem numTok_ok {s : ByteArray} {k d E : Nat} (hb : badForm s k = false) (hE : endOf isDI s k = E) (hd : k + d = E) (h : numTo s k d ≤ 1099511627776) : numTok s k = .ok ⟨3, s.extract k E, numTo s k d, k⟩ := by
  unfold numTok
  have e : E - k = d := by omega
  rw [hE, e, if_neg]
  rw [hb]
  simp
  omega

set_option maxHeartbeats 1000000 in
theorem numberAt_good (s : ByteArray) (k : Nat) (w : World) (hs : s.size ≤ maxLen) (hk : k < s.size) (hb : badForm s k = false) :
    Calls Tryd.prog 68 #[.string s, .int .i64 k] w fun e w' => NumPost s k w e w' := by
  have HB := Lib.hid hb
  have hs' := hs
  unfold maxLen at hs'
  have hge := endOf_ge isDI s k
  have hle := endOf_le isDI s k (by omega)
  have hmem := fun i => endOf_mem (p := isDI) (s := s) (k := k) i
  unfold badForm at hb
  rw [bat_eq s k hk] at hb
  generalize hE : endOf isDI s k = E at *
  have HE := Lib.hid hE
  have HM := Lib.hid hmem
  clear hE hmem
  have hz : ((s[k].toNat : Int) == 48) = (s[k] == 48) := by
    rw [Bool.eq_iff_iff]
    simp only [beq_iff_eq, ← UInt8.toNat_inj]
    have : (48 : UInt8).toNat = 48 := rfl
    omega
  rw [← hz] at hb
  have HZ := Lib.hid hz
  clear hz
  have hA : ((s[k].toNat : Int) == 48) = true → ¬ k + 1 < E := by
    intro h1 h2
    rw [h1] at hb
    simp [h2] at hb
  have hB : ∀ h : E < s.size, isLI (s[E].toNat : Int) = false := by
    intro h
    rw [← bat_eq s E h]
    cases h3 : isLI ((bat s E).toNat : Int)
    · rfl
    · rw [h3] at hb; simp [h] at hb
  clear hb
  cases h4 : ((s[k].toNat : Int) == 48) <;> by_cases h6 : E < s.size
  all_goals
    first
    | (have h7 := hB h6)
    | (have h7 : ¬ (E : Int) < (s.size : Int) := by omega)
    first
    | (have h5 : ¬ (k : Int) + 1 < (E : Int) := by have := hA h4; omega)
    | skip
    clear hA hB
    go_enter Tryd.func68, Tryd.ntmps68
    go_wp2_with (first
      | (go_at_call 46; refine (runEnd_digit _ _ _ hs (by omega) (by omega)).mono ?_; rintro e w' ⟨rfl, rfl⟩; rw [Int.toNat_natCast, HE.out])
      | (go_at_call 45; refine (beginsWord_any _ _).mono ?_; rintro e w' ⟨rfl, rfl⟩))
    go_loop [7, 8] (fun n i => ∃ d : Nat, k + d ≤ E ∧ i = .int .i64 (k + d : Nat) ∧ n = .int .i64 (numTo s k d) ∧ numTo s k d ≤ 1099511627776) (fun _ i => E - (intOf i).toNat)
    case atStart => exact ⟨0, by omega, by simp, rfl, by simp [numTo]⟩
    case round =>
      obtain ⟨d, hd, rfl, rfl, hM⟩ := hrel
      clear h4 h7
      by_cases hlt : k + d < E
      · have hdl : k + d < s.size := by omega
        have hdig := digit_range (HM.out (k + d) (by omega) hlt hdl)
        have hnx : numTo s k (d + 1) = numTo s k d * 10 + (s[k + d].toNat - 48) := by rw [numTo, bat_eq s _ hdl]
        have HN := Lib.hid hnx
        clear hnx
        by_cases hgr : 1099511627776 < numTo s k (d + 1)
        · have HG := Lib.hid (numTok_great (s := s) (k := k) (d := d + 1) (by rw [HE.out]; omega) hgr)
          have hgr' : 1099511627776 < (numTo s k d : Int) * 10 + ((s[k + d].toNat : Int) - 48) := by rw [HN.out] at hgr; omega
          clear hgr HN
          generalize hN : numTo s k d = N at *
          generalize hc : (s[k + d].toNat) = c at *
          go_wp2
          unfold NumPost
          rw [HG.out]
          exact bodyPost_ret (v := .tuple #[tokV zeroTok, .int .i64 12]) (by simp [results, Tryd.results68, go_sem, tokV, zeroTok]) rfl ⟨rfl, by go_grown⟩
        · have hgr' : ¬ 1099511627776 < (numTo s k d : Int) * 10 + ((s[k + d].toNat : Int) - 48) := by rw [HN.out] at hgr; omega
          have HV := Lib.hid (show ((numTo s k (d + 1) : Nat) : Int) = (numTo s k d : Int) * 10 + ((s[k + d].toNat : Int) - 48) by rw [HN.out]; omega)
          have HL := Lib.hid (show numTo s k (d + 1) ≤ 1099511627776 by omega)
          clear hgr HN
          generalize hN : numTo s k d = N at *
          generalize hc : (s[k + d].toNat) = c at *
          go_wp2
          go_round
          case rel => exact ⟨d + 1, by omega, by go_num, by rw [HV.out], HL.out⟩
          case measure => simp [intOf]; omega
      · have HO := Lib.hid (numTok_ok HB.out HE.out (show k + d = E by omega) hM)
        generalize hN : numTo s k d = N at *
        go_wp2
        unfold NumPost
        rw [HO.out]
        exact bodyPost_ret (v := .tuple #[tokV ⟨3, s.extract k E, N, k⟩, .int .i64 0]) (by simp [results, Tryd.results68, go_sem, tokV]) rfl ⟨rfl, by go_grown⟩

theorem numberAt_any (s : ByteArray) (k : Nat) (w : World) (hs : s.size ≤ maxLen) (hk : k < s.size) :
    Calls Tryd.prog 68 #[.string s, .int .i64 k] w fun e w' => e = resR (numTok s k) ∧ Below w.heap.size w w' := by
  cases hb : badForm s k
  · exact numberAt_good s k w hs hk hb
  · have hr : numTok s k = .error 12 := by unfold numTok; rw [if_pos (Or.inl hb)]
    rw [hr]
    exact numberAt_bad s k w hs hk hb
end

section
open Go.RowKit

def tokOf : Except Int Tok → Tok
  | .ok t => t
  | .error _ => zeroTok
def errOf : Except Int Tok → Int
  | .ok _ => 0
  | .error e => e

theorem resR_eq (x : Except Int Tok) : resR x = .returned (.tuple #[tokV (tokOf x), .int .i64 (errOf x)]) := by cases x <;> rfl

def tokAt (s : ByteArray) (k : Nat) : Except Int Tok :=
  if isLI ((bat s k).toNat : Int) = true then wordTok s k else if isDI ((bat s k).toNat : Int) = true then numTok s k else signTok s k

theorem bcell {W w1 : World} (hb : Below W.heap.size W w1) : (∀ b o, b < W.heap.size → w1.cell? ⟨b, o, none⟩ = W.cell? ⟨b, o, none⟩) ∧ (∀ b o, b < W.heap.size → w1.frozen? ⟨b, o, none⟩ = W.frozen? ⟨b, o, none⟩) :=
  ⟨fun b o h => hb.cell (p := ⟨b, o, none⟩) h, fun b o h => hb.frozen (p := ⟨b, o, none⟩) h⟩

set_option maxHeartbeats 400000 in
theorem tokenAt_any (s : ByteArray) (k : Nat) (w : World) (hs : s.size ≤ maxLen) (hk : k < s.size) (ht : Tabs w) :
    Calls Tryd.prog 50 #[.string s, .int .i64 k] w fun e w' => e = resR (tokAt s k) ∧ Below w.heap.size w w' := by
  have hs' := hs
  unfold maxLen at hs'
  cases hl : isLI (s[k].toNat : Int)
  · cases hd : isDI (s[k].toNat : Int)
    · have hr : tokAt s k = signTok s k := by unfold tokAt; rw [bat_eq s k hk, if_neg (by simp [hl]), if_neg (by simp [hd])]
      rw [hr, resR_eq]
      clear hr
      generalize hx : signTok s k = x
      have HX := Lib.hid hx
      clear hx
      go_enter Tryd.func50, Tryd.ntmps50
      go_wp2_with (first
        | (go_at_call 45; refine (beginsWord_any _ _).mono ?_; rintro e w' ⟨rfl, rfl⟩)
        | (go_at_call 66; refine (isDigit_any _ _).mono ?_; rintro e w' ⟨rfl, rfl⟩))
      refine (signAt_any s k _ hs hk ht.alloc).mono ?_
      rintro e w1 ⟨rfl, hb⟩
      rw [resR_eq, HX.out]
      obtain ⟨hc, hf⟩ := bcell hb
      have hz : w.heap.size + 1 ≤ w1.heap.size := by have := hb.size; simp at this; omega
      have HB := Lib.hid (((Below.refl w.heap.size w).alloc (Nat.le_refl _) _).trans (hb.mono (by simp)))
      clear hb
      unfold tokV
      go_wp2
      exact bodyPost_ret (v := .tuple #[tokV (tokOf x), .int .i64 (errOf x)]) (by simp [results, Tryd.results50, go_sem, tokV, hc]) rfl ⟨rfl, by repeat (first | exact HB.out | refine Below.setCell ?_ (by simp) _)⟩
    · have hr : tokAt s k = numTok s k := by unfold tokAt; rw [bat_eq s k hk, if_neg (by simp [hl]), if_pos (by simp [hd])]
      rw [hr, resR_eq]
      clear hr
      generalize hx : numTok s k = x
      have HX := Lib.hid hx
      clear hx
      go_enter Tryd.func50, Tryd.ntmps50
      go_wp2_with (first
        | (go_at_call 45; refine (beginsWord_any _ _).mono ?_; rintro e w' ⟨rfl, rfl⟩)
        | (go_at_call 66; refine (isDigit_any _ _).mono ?_; rintro e w' ⟨rfl, rfl⟩))
      refine (numberAt_any s k _ hs hk).mono ?_
      rintro e w1 ⟨rfl, hb⟩
      rw [resR_eq, HX.out]
      obtain ⟨hc, hf⟩ := bcell hb
      have hz : w.heap.size + 1 ≤ w1.heap.size := by have := hb.size; simp at this; omega
      have HB := Lib.hid (((Below.refl w.heap.size w).alloc (Nat.le_refl _) _).trans (hb.mono (by simp)))
      clear hb
      unfold tokV
      go_wp2
      exact bodyPost_ret (v := .tuple #[tokV (tokOf x), .int .i64 (errOf x)]) (by simp [results, Tryd.results50, go_sem, tokV, hc]) rfl ⟨rfl, by repeat (first | exact HB.out | refine Below.setCell ?_ (by simp) _)⟩
  · · have hr : tokAt s k = wordTok s k := by unfold tokAt; rw [bat_eq s k hk, if_pos (by simp [hl])]
      rw [hr, resR_eq]
      clear hr
      generalize hx : wordTok s k = x
      have HX := Lib.hid hx
      clear hx
      go_enter Tryd.func50, Tryd.ntmps50
      go_wp2_with (first
        | (go_at_call 45; refine (beginsWord_any _ _).mono ?_; rintro e w' ⟨rfl, rfl⟩)
        | (go_at_call 66; refine (isDigit_any _ _).mono ?_; rintro e w' ⟨rfl, rfl⟩))
      refine (wordAt_any s k _ hs hk ht.alloc).mono ?_
      rintro e w1 ⟨rfl, hb⟩
      rw [resR_eq, HX.out]
      obtain ⟨hc, hf⟩ := bcell hb
      have hz : w.heap.size + 1 ≤ w1.heap.size := by have := hb.size; simp at this; omega
      have HB := Lib.hid (((Below.refl w.heap.size w).alloc (Nat.le_refl _) _).trans (hb.mono (by simp)))
      clear hb
      unfold tokV
      go_wp2
      exact bodyPost_ret (v := .tuple #[tokV (tokOf x), .int .i64 (errOf x)]) (by simp [results, Tryd.results50, go_sem, tokV, hc]) rfl ⟨rfl, by repeat (first | exact HB.out | refine Below.setCell ?_ (by simp) _)⟩
end

end Go.Proofs.YtnmpfpnldcgbaaaDoor
