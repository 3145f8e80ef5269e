/- Plain facts on numbers and their digits: digits that say a number, without a 0 ahead, are read as that number; with a 0 ahead they are a fault. Nothing of the program is walked here. -/
import Derived.Test.YtafhpckhjncecaaDoorFirst
namespace Go.Proofs.YtafhpckhjncecaaDoor
open Go.RowKit

theorem valL_cons (b : UInt8) (l : List UInt8) : ∀ n, valL (b :: l) (n + 1) = (b.toNat - 48) * 10 ^ n + valL l n
  | 0 => by simp [valL]
  | n + 1 => by
    rw [valL, valL_cons b l n, valL, Nat.pow_succ]
    have e : (b :: l).getD (n + 1) 0 = l.getD n 0 := by simp [List.getD_eq_getElem?_getD]
    rw [e, Nat.add_mul, Nat.mul_assoc]
    omega

def DigInv (N m : Nat) (l : List UInt8) : Prop :=
  (∀ b ∈ l, 48 ≤ b.toNat ∧ b.toNat ≤ 57) ∧ m * 10 ^ l.length + valL l l.length = N ∧ (l ≠ [] → m = 0 → (l.getD 0 0 ≠ 48 ∨ l.length = 1)) ∧ l.length ≤ 13 ∧ m < 10 ^ (13 - l.length)

def digByte (m : Nat) : UInt8 := (48 + m % 10).toUInt8

theorem digByte_nat (m : Nat) : (digByte m).toNat = 48 + m % 10 := by
  unfold digByte
  have : m % 10 < 10 := Nat.mod_lt _ (by omega)
  simp
  omega

theorem dig_start {N : Nat} (h : N ≤ 1099511627781) : DigInv N N [] := by
  refine ⟨by simp, by simp [valL], by simp, by simp, ?_⟩
  show N < 10 ^ 13
  omega

theorem dig_step {N m : Nat} {l : List UInt8} (h : DigInv N m l) (hm : 0 < m ∨ l = []) : DigInv N (m / 10) (digByte m :: l) := by
  obtain ⟨h1, h2, h3, h4, h5⟩ := h
  have hd := digByte_nat m
  have hdm := Nat.div_add_mod m 10
  have hlen : l.length ≤ 12 := by
    rcases hm with hm | hm
    · rcases Nat.lt_or_ge l.length 13 with hl | hl
      · omega
      · have : 13 - l.length = 0 := by omega
        rw [this] at h5
        simp at h5
        omega
    · rw [hm]; simp
  refine ⟨?_, ?_, ?_, by simp; omega, ?_⟩
  · intro b hb
    rcases List.mem_cons.1 hb with rfl | hb
    · have : m % 10 < 10 := Nat.mod_lt _ (by omega)
      omega
    · exact h1 b hb
  · rw [List.length_cons, valL_cons, hd, Nat.pow_succ, ← h2]
    have e : 48 + m % 10 - 48 = m % 10 := by omega
    rw [e, ← Nat.add_assoc, ← Nat.mul_assoc]
    congr 1
    rw [Nat.mul_right_comm, ← Nat.add_mul]
    congr 1
    omega
  · intro _ hz
    rcases hm with hm | hm
    · left
      show digByte m ≠ 48
      intro e
      have := congrArg UInt8.toNat e
      rw [hd] at this
      have h48 : (48 : UInt8).toNat = 48 := rfl
      omega
    · right
      rw [hm]; rfl
  · rw [List.length_cons]
    have e : 13 - l.length = (13 - (l.length + 1)) + 1 := by omega
    rw [e, Nat.pow_succ] at h5
    omega

theorem run_all {l : List UInt8} (h : ∀ b ∈ l, 48 ≤ b.toNat ∧ b.toNat ≤ 57) : runLen isDI l = l.length := by
  induction l with
  | nil => rfl
  | cons b r ih =>
    have hb := h b (by simp)
    have : isDI (b.toNat : Int) = true := by unfold isDI; simp; omega
    rw [runLen, this, if_pos rfl, ih (fun c hc => h c (by simp [hc]))]
    rfl

theorem head_digit {l : List UInt8} (hl : l ≠ []) (h : ∀ b ∈ l, 48 ≤ b.toNat ∧ b.toNat ≤ 57) : 48 ≤ (l.getD 0 0).toNat ∧ (l.getD 0 0).toNat ≤ 57 := by
  cases l with
  | nil => exact absurd rfl hl
  | cons b r => exact h b (by simp)

theorem tokL_digits {l : List UInt8} (hl : l ≠ []) (h : ∀ b ∈ l, 48 ≤ b.toNat ∧ b.toNat ≤ 57) : tokL l = numL l := by
  have hh := head_digit hl h
  unfold tokL
  rw [if_neg, if_pos]
  · generalize (l.getD 0 0).toNat = c at *
    unfold isDI
    simp
    omega
  · generalize (l.getD 0 0).toNat = c at *
    unfold isLI
    simp
    omega

theorem lex_digits {l : List UInt8} (hl : l ≠ []) (h : ∀ b ∈ l, 48 ≤ b.toNat ∧ b.toNat ≤ 57) (hs : l.length ≤ 16384) :
    lexAll ⟨l.toArray⟩ = (match numL l with | .error e => .error (0, e) | .ok (_, _, v) => .ok [⟨3, ⟨l.toArray⟩, v, 0⟩, ⟨0, ⟨#[]⟩, 0, l.length⟩]) := by
  have hsz : (⟨l.toArray⟩ : ByteArray).size = l.length := by show l.toArray.size = _; simp
  have hda : (⟨l.toArray⟩ : ByteArray).data.toList = l := by simp
  have hh := head_digit hl h
  have hpos : 0 < l.length := List.length_pos_iff.2 hl
  have hb0 : bat ⟨l.toArray⟩ 0 = l.getD 0 0 := by rw [bat_drop0, hda, List.drop_zero]
  have hbl : isBlank (bat ⟨l.toArray⟩ 0) = false := by
    rw [hb0]
    unfold isBlank
    simp only [Bool.or_eq_false_iff, beq_eq_false_iff_ne]
    constructor <;> (intro e; rw [e] at hh; revert hh; decide)
  have h35 : ¬ bat ⟨l.toArray⟩ 0 = 35 := by
    rw [hb0]
    intro e
    rw [e] at hh
    revert hh
    decide
  have htok : tokAt ⟨l.toArray⟩ 0 = atPlace ⟨l.toArray⟩ 0 (numL l) := by rw [tokL_eq, hda, List.drop_zero, tokL_digits hl h]
  unfold lexAll
  rw [if_neg (by omega)]
  cases hn : numL l with
  | error e =>
    rw [hn] at htok
    rw [lex_err (by omega) hbl h35 htok]
  | ok x =>
    obtain ⟨kd, n, v⟩ := x
    have hk : kd = 3 ∧ n = l.length := by
      unfold numL at hn
      rw [run_all h] at hn
      split at hn
      · cases hn
      · cases hn; exact ⟨rfl, rfl⟩
    obtain ⟨rfl, rfl⟩ := hk
    rw [hn] at htok
    have hx : (⟨l.toArray⟩ : ByteArray).extract 0 (0 + l.length) = ⟨l.toArray⟩ := by
      apply bytes_ext
      rw [extract_list, hda, List.drop_zero, List.take_length]
    have htok' : tokAt ⟨l.toArray⟩ 0 = .ok ⟨3, ⟨l.toArray⟩, v, 0⟩ := by rw [htok]; show Except.ok _ = _; rw [hx]
    rw [lex_tok (by omega) hbl h35 htok', lex_end (by show _ ≤ 0 + (⟨l.toArray⟩ : ByteArray).size; omega)]
    show Except.ok _ = Except.ok _
    simp [endTok, hsz]

theorem lex_value {N : Nat} {l : List UInt8} (h : DigInv N 0 l) (hl : l ≠ []) (hN : N ≤ 1099511627776) : lexAll ⟨l.toArray⟩ = .ok [⟨3, ⟨l.toArray⟩, N, 0⟩, ⟨0, ⟨#[]⟩, 0, l.length⟩] := by
  obtain ⟨h1, h2, h3, h4, _⟩ := h
  rw [Nat.zero_mul, Nat.zero_add] at h2
  rw [lex_digits hl h1 (by omega)]
  have hn : numL l = .ok (3, l.length, N) := by
    unfold numL badL
    rw [run_all h1, h2, if_neg]
    rintro (hb | hb)
    · rw [List.getElem?_eq_none (Nat.le_refl _)] at hb
      simp only [isLO, Bool.or_false, Bool.and_eq_true, beq_iff_eq, decide_eq_true_eq] at hb
      rcases h3 hl rfl with h | h
      · exact h hb.1
      · omega
    · omega
  rw [hn]

theorem lex_great {N : Nat} {l : List UInt8} (h : DigInv N 0 l) (hl : l ≠ []) (hN : 1099511627776 < N) : lexAll ⟨l.toArray⟩ = .error (0, 12) := by
  obtain ⟨h1, h2, _, h4, _⟩ := h
  rw [Nat.zero_mul, Nat.zero_add] at h2
  rw [lex_digits hl h1 (by omega)]
  have hn : numL l = .error 12 := by
    unfold numL
    rw [run_all h1, h2, if_pos (Or.inr hN)]
  rw [hn]

theorem lex_zero {N : Nat} {l : List UInt8} (h : DigInv N 0 l) (hl : l ≠ []) : lexAll ⟨(48 :: l).toArray⟩ = .error (0, 12) := by
  obtain ⟨h1, _, _, h4, _⟩ := h
  have h1' : ∀ b ∈ (48 :: l), 48 ≤ b.toNat ∧ b.toNat ≤ 57 := by
    intro b hb
    rcases List.mem_cons.1 hb with rfl | hb
    · decide
    · exact h1 b hb
  have hpos : 0 < l.length := List.length_pos_iff.2 hl
  rw [lex_digits (by simp) h1' (by simp; omega)]
  have hn : numL (48 :: l) = .error 12 := by
    unfold numL
    rw [if_pos]
    left
    unfold badL
    rw [run_all h1']
    simp
    left
    exact hpos
  rw [hn]

end Go.Proofs.YtafhpckhjncecaaDoor
