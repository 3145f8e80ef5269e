/- Proved here: for every list of numbers and list of bools that lychgatelaw06.MemFull is called with, in every memory, the call returns true and its arguments read as before. No conditions. -/
import Derived.Test.YteepocmdgkngeaaMClose
namespace Go.Proofs.Yteepocmdgkngeaa
open Go.ChangeShapes Go.WideShapes Go.ChangeAt Go.RowKit

theorem Sep.most {w W : World} {l : List Thing} (h : Sep w W l) (i : Nat) {b : Nat} {s : MS} (hi : l[i]? = some (memT b s)) : usedS s ≤ 4096 := by
  obtain ⟨O, hO⟩ := h.mem i hi
  obtain ⟨v, gs, hm, _⟩ := hO.open
  exact hm.most
def fullS (s : MS) (n : Nat) (x : Bool) : MS := s ++ [⟨x, List.replicate n c0⟩]
abbrev fullP (s : MS) : MV := ⟨2, 0, (s.length : Int) + 1⟩
theorem full_bk (s : MS) (n : Nat) (x : Bool) : bkOf (fullS s n x) (fullP s) = ⟨x, List.replicate n c0⟩ ∧ at1 (fullP s) = s.length := by
  have e : at1 (fullP s) = s.length := by simp [at1]
  exact ⟨bkOf_get (by rw [e]; simp [fullS]), e⟩
theorem full_free (s : MS) (n : Nat) : freeS (fullS s n true) (fullP s) = fullS s n false ∧ freeW (fullS s n true) (fullP s) = 0 := by
  have hb := full_bk s n true
  have h1 : whyB (fullS s n true) (fullP s) = 0 := whyB_live rfl (by show ¬ (s.length : Int) + 1 < 1; omega) (by simp only [fullS, List.length_append, List.length_singleton]; omega) (by rw [hb.1])
  have h2 : freeW (fullS s n true) (fullP s) = 0 := freeW_fine h1 rfl (by
    rw [hb.1]
    rw [List.any_eq_false]
    intro c hc
    simp only [List.mem_replicate] at hc
    rw [hc.2]
    decide)
  refine ⟨?_, h2⟩
  rw [freeS_yes h2, hb.2, hb.1]
  simp [fullS]
theorem full_gone (s : MS) (n : Nat) : freeS (fullS s n false) (fullP s) = fullS s n false ∧ freeW (fullS s n false) (fullP s) = 2 := by
  have hb := full_bk s n false
  have h1 : freeW (fullS s n false) (fullP s) = 2 := freeW_B (whyB_dead rfl (by rw [hb.1])) (by decide)
  exact ⟨freeS_no h1 (by decide), h1⟩
theorem full_used (s : MS) (n : Nat) (x : Bool) : (usedS (fullS s n x) : Int) = (usedS s : Int) + ((n : Int) + 1) := by
  unfold fullS
  rw [usedS_append]
  simp
  omega
theorem full_alloc {s : MS} {n : Nat} (h : allocOK s n = true) : allocS s n = fullS s n true ∧ allocV s n = ⟨2, 0, (s.length : Int) + 1⟩ ∧ allocOK s n = true := ⟨(allocS_yes h).1, (allocS_yes h).2, h⟩
theorem full_no {s : MS} {n : Int} (h : allocOK s n = false) : allocS s n = s ∧ allocV s n = ⟨0, 0, 0⟩ ∧ allocOK s n = false := ⟨(allocS_no h).1, (allocS_no h).2, h⟩

def FullRel (w : World) (b n : Nat) (i u : Value) (W : World) : Prop := ∃ (k : Nat) (s : MS), k ≤ n ∧ i = .int .i64 k ∧ u = .int .i64 (usedS s) ∧ Sep w W [memT b s]

set_option maxRecDepth 100000 in
set_option maxHeartbeats 8000000 in
theorem memFull_walk (A : Option Addr) (cap : Nat) (l : List Int) (A1 : Option Addr) (cap1 : Nat) (l1 : List Bool) (w : World) (hl : NumsAt w w.heap.size A l) (hc : l.length ≤ cap) (hm : cap ≤ maxLen) (_hy : cap * 8 ≤ 140737488351232)
    (hl1 : BoolsAt w w.heap.size A1 l1) (_hc1 : l1.length ≤ cap1) (_hm1 : cap1 ≤ maxLen) (_hy1 : cap1 * 1 ≤ 140737488351232) :
    Calls Try.prog 5 #[.slice A l.length cap, .slice A1 l1.length cap1] w fun e w' => e = .returned (.bool true) ∧ Below w.heap.size w w' := by
  unfold maxLen at hm _hm1
  have HL := Lib.hid hl
  have HL1 := Lib.hid hl1
  clear hl hl1
  go_enter Try.func5, Try.ntmps5
  go_wp2_with fail
  ((with_reducible refine (wakes_any _).mono ?_); rintro e w0 ⟨rfl, hb0⟩)
  have S0 := Lib.hid ((Sep.start w).quiet hb0)
  clear hb0
  go_wp2_with fail
  ((with_reducible refine (S0.out.newMem rfl).mono ?_); rintro e w1 ⟨rfl, hs⟩)
  generalize w0.heap.size = b at *
  have H := Lib.hid hs
  clear hs S0
  go_wp2
  go_loopw [17, 6] (fun i u wr => FullRel w b l.length i u wr) (fun i _ _ => l.length - (intOf i).toNat)
  case atStart => exact ⟨0, [], by omega, rfl, rfl, H.out⟩
  case round =>
    obtain ⟨k, s, hk, rfl, rfl, hs⟩ := hrel
    have hmost := hs.most 0 rfl
    by_cases hlt : k < l.length
    · obtain ⟨ab, off, rfl, d0⟩ := HL.out.at hs.below hlt
      have HR := Lib.hid hs
      clear hs
      generalize l.getD k 0 = n at *
      have hk1 : (k : Int) < (l.length : Int) := by omega
      by_cases h0 : n < 0
      · have q0 : decide (0 ≤ n) = false := by simpa using h0
        have q0' : decide (n < 0) = true := by simpa using h0
        have HN := Lib.hid (full_no (allocOK_no (s := s) (.inl h0)))
        clear h0
        go_wp2_with fail
        ((with_reducible refine (HR.out.alloc 0 rfl _ HN.out rfl).mono ?_); rintro e w6 ⟨rfl, hs6⟩)
        have H6 := Lib.hid hs6
        clear hs6 d0
        go_wp2
        go_roundw
        case rel => exact ⟨k + 1, s, by omega, by go_num, rfl, H6.out.quiet ((Below.refl _ _).alloc (Nat.le_refl _) _)⟩
        case measure => simp [intOf]; omega
      · obtain ⟨n, rfl⟩ : ∃ m : Nat, n = (m : Int) := ⟨n.toNat, by omega⟩
        have q0 : decide ((0 : Int) ≤ (n : Int)) = true := by simp
        by_cases h1 : (256 : Int) < (n : Int)
        · have q1 : decide ((n : Int) ≤ 256) = false := by simpa using h1
          have HN := Lib.hid (full_no (allocOK_no (s := s) (.inr (.inl h1))))
          clear h0 h1
          go_wp2_with fail
          ((with_reducible refine (HR.out.alloc 0 rfl _ HN.out rfl).mono ?_); rintro e w6 ⟨rfl, hs6⟩)
          have H6 := Lib.hid hs6
          clear hs6 d0
          go_wp2
          go_roundw
          case rel => exact ⟨k + 1, s, by omega, by go_num, rfl, H6.out.quiet ((Below.refl _ _).alloc (Nat.le_refl _) _)⟩
          case measure => simp [intOf]; omega
        · have q1 : decide ((n : Int) ≤ 256) = true := by rw [decide_eq_true_eq]; omega
          have hnb : n ≤ 256 := by omega
          by_cases h2 : 4096 < (usedS s : Int) + (n : Int) + 1
          · have q2 : decide ((usedS s : Int) + (n : Int) + 1 ≤ 4096) = false := by rw [decide_eq_false_iff_not]; omega
            have HN := Lib.hid (full_no (allocOK_no (s := s) (.inr (.inr h2))))
            clear h0 h1 h2
            go_wp2_with fail
            ((with_reducible refine (HR.out.alloc 0 rfl _ HN.out rfl).mono ?_); rintro e w6 ⟨rfl, hs6⟩)
            have H6 := Lib.hid hs6
            clear hs6 d0
            go_wp2
            go_roundw
            case rel => exact ⟨k + 1, s, by omega, by go_num, rfl, H6.out.quiet ((Below.refl _ _).alloc (Nat.le_refl _) _)⟩
            case measure => simp [intOf]; omega
          · have q2 : decide ((usedS s : Int) + (n : Int) + 1 ≤ 4096) = true := by rw [decide_eq_true_eq]; omega
            have HY := Lib.hid (full_alloc (allocOK_yes (s := s) (n := (n : Int)) (by omega) (by omega) (by omega)))
            have hslen := usedS_len s
            clear h0 h1 h2
            go_wp2_with fail
            ((with_reducible refine (HR.out.alloc 0 rfl _ HY.out rfl).mono ?_); rintro e w6 ⟨rfl, hs6⟩)
            have hq : Sep w (w6.alloc (.cells #[.int .i64 2, .int .i64 0, .int .i64 ((s.length : Int) + 1)] 34)) _ := hs6.boxV ⟨2, 0, (s.length : Int) + 1⟩ rfl
            obtain ⟨x0, x1, x2, x3⟩ := hq.boxAt 1 rfl
            have H6 := Lib.hid hq
            clear hs6 hq d0
            go_wp2_with fail
            ((with_reducible refine (H6.out.used 0 rfl (full_used s n true)).mono ?_); rintro e _ ⟨rfl, rfl⟩)
            by_cases hf : k < l1.length
            · obtain ⟨fb, fo, rfl, f0⟩ := HL1.out.at H6.out.below hf
              have qf : decide ((k : Int) < (l1.length : Int)) = true := by simpa using hf
              have qf2 : decide (k < l1.length) = true := by simpa using hf
              generalize l1.getD k false = z at *
              cases z
              · go_wp2
                go_roundw
                case rel => exact ⟨k + 1, fullS s n true, by omega, by go_num, by rw [full_used], H6.out.take 1⟩
                case measure => simp [intOf]; omega
              · go_wp2_with fail
                ((with_reducible refine (H6.out.free 0 rfl (fullP s) (full_free s n) rfl).mono ?_); rintro e w7 ⟨rfl, hs7⟩)
                clear x0 x1 x2 x3 f0
                obtain ⟨x0, x1, x2, x3⟩ := hs7.boxAt 1 rfl
                have H7 := Lib.hid hs7
                clear hs7
                go_wp2_with fail
                ((with_reducible refine (H7.out.free 0 rfl (fullP s) (full_gone s n) rfl).mono ?_); rintro e w8 ⟨rfl, hs8⟩)
                have H8 := Lib.hid hs8
                clear hs8 x0 x1 x2 x3
                go_wp2
                go_roundw
                case rel => exact ⟨k + 1, fullS s n false, by omega, by go_num, by rw [full_used], H8.out.take 1⟩
                case measure => simp [intOf]; omega
            · have qf : decide ((k : Int) < (l1.length : Int)) = false := by simpa using hf
              have qf2 : decide (k < l1.length) = false := by simpa using hf
              go_wp2
              go_roundw
              case rel => exact ⟨k + 1, fullS s n true, by omega, by go_num, by rw [full_used], H6.out.take 1⟩
              case measure => simp [intOf]; omega
    · have HR := Lib.hid hs
      clear hs
      go_wp2
      go_ret
      exact ⟨rfl, HR.out.below⟩

theorem memFull_reads (os : Os) {H : Type} (enc : TypeId × Value → H) : ∃ places, DataW.whole enc Try.prog ((World.holding Try.prog os ⟨#[], #[], []⟩).forCall (fun _ _ => 0) ⟨#[], #[Value.slice none 0 0, Value.slice none 0 0], []⟩).memory Try.f5.params.toList Rows.memFullSpec.vars false #[Value.slice none 0 0, Value.slice none 0 0].toList 8 = some ([.nil, .nil], [], places) :=
  ⟨[], by kernel_rfl⟩

set_option maxRecDepth 100000 in
theorem memFull_lifted (os : Os) (started : os.Started) (H : Type) (enc : TypeId × Value → H) (F : Stop.Interp) :
    ReturnsInHanded {} Try.checked os 5 .any ((OpenSpec.ofChange Rows.memFullSpec).preRow enc Try.prog Try.f5 Rows.memFullRow.domain false Rows.memFullRow.laid) (((OpenSpec.ofChange Rows.memFullSpec).at F).post enc Try.prog Try.f5 false true false false) := by
  obtain ⟨places, hx⟩ := memFull_reads os enc
  refine returnsInHanded_of_row (C := Try.checked) (s := OpenSpec.ofChange Rows.memFullSpec) own started (by kernel_rfl) Try.func5
    (witness_row_at (enc := enc) (C := Try.checked) false (World.holding Try.prog os ⟨#[], #[], []⟩) #[Value.slice none 0 0, Value.slice none 0 0] rfl (by kernel_rfl) (by kernel_rfl) (by kernel_rfl)
      (OpenSpec.preRow_of_cond 8 hx (by kernel_rfl) (fun k hk => by cases hk) (by kernel_rfl) (laidMet_of_run' 8 (by kernel_rfl) (by kernel_rfl)))) ?_
  intro W base args ds gs before hval hW _ _ hreach _ _ _
  exact numsBools_contract Try.params5 (by kernel_rfl) rfl (fun _ _ => rfl) memFull_walk W base args ds gs before hval hW hreach

theorem memFull_said : Rows.MemFullSaid :=
  OpenClaim.holds_of_cond 5 Try.f5 rfl rfl rfl rfl rfl rfl rfl ⟨rfl, rfl, rfl, rfl, rfl⟩ rfl rfl rfl rfl rfl (by kernel_rfl) Try.func5 (by kernel_rfl)
    (of_decide_eq_true (by kernel_rfl)) (by unfold Func.isWrapper; first | (rw [if_pos (by decide +kernel)]; kernel_rfl) | (rw [if_neg (by decide +kernel)]; exact ⟨rfl, rfl⟩))
    (fun os started H enc _ F => by rw [OpenClaim.pre_eq_preRow]; exact memFull_lifted os started H enc F)

end Go.Proofs.Yteepocmdgkngeaa
