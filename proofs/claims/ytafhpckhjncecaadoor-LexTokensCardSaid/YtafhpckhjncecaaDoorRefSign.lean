/- The contract of lychgateref01.sign: the length of the sign at a place, 0 if there is none; the world is left as it was. -/
import Derived.Test.YtafhpckhjncecaaDoorPlain
namespace Go.Proofs.YtafhpckhjncecaaDoor
open Go.RowKit

theorem indexByte_neg (c : UInt8) : ∀ l : List UInt8, Lib.indexByte l c < 0 ↔ c ∉ l
  | [] => by simp [Lib.indexByte]
  | b :: l => by
    have ih := indexByte_neg c l
    have hge := Lib.indexByte_ge l c
    simp only [Lib.indexByte]
    by_cases hb : b = c
    · subst hb
      simp
    · have hb' : (b == c) = false := by simpa using hb
      rw [hb']
      simp only [Bool.false_eq_true, if_false]
      cases hx : (Lib.indexByte l c == -1)
      · have hne : Lib.indexByte l c ≠ -1 := by simpa using hx
        simp only [Bool.false_eq_true, if_false]
        constructor
        · intro h; omega
        · intro h
          have : c ∉ l := fun hm => h (List.mem_cons_of_mem _ hm)
          have := ih.2 this
          omega
      · have he : Lib.indexByte l c = -1 := by simpa using hx
        simp only [if_true]
        have : c ∉ l := ih.1 (by omega)
        constructor
        · intro _ hm
          rcases List.mem_cons.1 hm with h | h
          · exact hb h.symm
          · exact this h
        · intro _; omega

theorem single_in (b : UInt8) : isSingle b = singles.contains b := by
  unfold isSingle
  have h := indexByte_neg b singles
  rw [Bool.eq_iff_iff]
  simp only [Bool.not_eq_true', decide_eq_false_iff_not, List.contains_iff_mem]
  rw [h]
  simp

theorem byte_int (b : UInt8) (n : Nat) (hn : n < 256) : ((b.toNat : Int) == (n : Int)) = (b == n.toUInt8) := by
  rw [Bool.eq_iff_iff, beq_iff_eq, beq_iff_eq, ← UInt8.toNat_inj]
  have : n.toUInt8.toNat = n := by simp; omega
  omega

theorem single_ints (b : UInt8) : isSingle b = ((b.toNat : Int) == 123 || ((b.toNat : Int) == 125 || ((b.toNat : Int) == 40 || ((b.toNat : Int) == 41 || ((b.toNat : Int) == 91 || ((b.toNat : Int) == 93 || ((b.toNat : Int) == 44 || ((b.toNat : Int) == 58 || ((b.toNat : Int) == 59 || ((b.toNat : Int) == 61 || ((b.toNat : Int) == 43 || ((b.toNat : Int) == 45 || ((b.toNat : Int) == 38 || (b.toNat : Int) == 60))))))))))))) := by
  rw [single_in, show ((b.toNat : Int) == 123) = (b == 123) from byte_int b 123 (by omega), show ((b.toNat : Int) == 125) = (b == 125) from byte_int b 125 (by omega), show ((b.toNat : Int) == 40) = (b == 40) from byte_int b 40 (by omega), show ((b.toNat : Int) == 41) = (b == 41) from byte_int b 41 (by omega),
    show ((b.toNat : Int) == 91) = (b == 91) from byte_int b 91 (by omega), show ((b.toNat : Int) == 93) = (b == 93) from byte_int b 93 (by omega), show ((b.toNat : Int) == 44) = (b == 44) from byte_int b 44 (by omega), show ((b.toNat : Int) == 58) = (b == 58) from byte_int b 58 (by omega),
    show ((b.toNat : Int) == 59) = (b == 59) from byte_int b 59 (by omega), show ((b.toNat : Int) == 61) = (b == 61) from byte_int b 61 (by omega), show ((b.toNat : Int) == 43) = (b == 43) from byte_int b 43 (by omega), show ((b.toNat : Int) == 45) = (b == 45) from byte_int b 45 (by omega),
    show ((b.toNat : Int) == 38) = (b == 38) from byte_int b 38 (by omega), show ((b.toNat : Int) == 60) = (b == 60) from byte_int b 60 (by omega)]
  simp only [singles, List.contains_cons, List.contains_nil, Bool.or_false]

def signN (s : ByteArray) (k : Nat) : Nat :=
  if isPair ((s.data.toList.drop k).take 2) = true then 2 else if isSingle (bat s k) = true then 1 else 0

theorem pair_cases (l : List UInt8) : isPair l = (l == [45, 62] || (l == [60, 61] || l == [61, 61])) := by unfold isPair; rw [Bool.or_assoc]

set_option maxHeartbeats 1000000 in
theorem refSign_any (s : ByteArray) (k : Nat) (w : World) (hs : s.size ≤ maxLen) (hk : k < s.size) :
    Calls Tryd.prog 30 #[.string s, .int .i64 k] w fun e w' => e = .returned (.int .i64 (signN s k)) ∧ w = w' := by
  have hs' := hs
  unfold maxLen at hs'
  have HS := Lib.hid (single_ints s[k])
  have HD : Hid (signN s k = if isPair ((s.data.toList.drop k).take 2) = true then 2 else if isSingle s[k] = true then 1 else 0) := Lib.hid (by unfold signN; rw [bat_eq s k hk])
  by_cases h2 : k + 1 < s.size
  · have h2' : (k : Int) + 1 < (s.size : Int) := by omega
    have HP : Hid (isPair ((s.data.toList.drop k).take 2) = ((s.extract k (k + 2)).toList == [45, 62] || ((s.extract k (k + 2)).toList == [60, 61] || (s.extract k (k + 2)).toList == [61, 61]))) :=
      Lib.hid (by rw [ByteArray.toList_eq, extract_list, pair_cases])
    go_enter Tryd.func30, Tryd.ntmps30
    go_wp2
    all_goals go_ret
    all_goals refine ⟨ret_int ?_, rfl⟩
    all_goals (rw [HD.out, HP.out, HS.out]; clear HD HP HS; first | (exfalso; simp_all; done) | (simp only [*, Bool.true_or, Bool.or_true, Bool.or_false, if_true, if_false, Bool.false_eq_true]; done) | (simp only [*, Bool.true_or, Bool.or_true, Bool.or_false, if_true, if_false, Bool.false_eq_true]; rfl) | (simp_all; done))
  · have h2' : ¬ (k : Int) + 1 < (s.size : Int) := by omega
    have HP : Hid (isPair ((s.data.toList.drop k).take 2) = false) := Lib.hid (by
      have hl : ((s.data.toList.drop k).take 2).length = 1 := by rw [List.length_take]; simp; omega
      cases hp : isPair ((s.data.toList.drop k).take 2)
      · rfl
      · unfold isPair at hp
        simp only [Bool.or_eq_true, beq_iff_eq] at hp
        rcases hp with (h | h) | h <;> rw [h] at hl <;> simp at hl)
    go_enter Tryd.func30, Tryd.ntmps30
    go_wp2
    all_goals go_ret
    all_goals refine ⟨ret_int ?_, rfl⟩
    all_goals (rw [HD.out, HP.out, HS.out]; clear HD HP HS; first | (exfalso; simp_all; done) | (simp only [*, Bool.true_or, Bool.or_true, Bool.or_false, if_true, if_false, Bool.false_eq_true]; done) | (simp only [*, Bool.true_or, Bool.or_true, Bool.or_false, if_true, if_false, Bool.false_eq_true]; rfl) | (simp_all; done))

end Go.Proofs.YtafhpckhjncecaaDoor
