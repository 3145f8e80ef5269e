/- Proved here: for every list of bools that lychgatelaw06.MemLocks is called with, in every memory, the call returns true and its argument reads as before. No conditions. -/
import Derived.Test.YteepocmdgkngeaaMClose
namespace Go.Proofs.Yteepocmdgkngeaa
open Go.ChangeShapes Go.WideShapes Go.ChangeAt Go.RowKit

def lk0 : MS := [⟨true, [c0]⟩]
def lk1 : MS := [⟨true, [⟨v0, 0, true⟩]⟩]
def lkh (h : Bool) : MS := [⟨true, [⟨⟨1, cond h 1 0, 0⟩, 0, false⟩]⟩]
theorem lka : allocS [] 1 = lk0 ∧ allocV [] 1 = p1 ∧ allocOK [] 1 = true := ⟨rfl, rfl, rfl⟩
theorem lkb : lockS lk0 p1 = lk0 ∧ lockR lk0 p1 = false ∧ lockW lk0 p1 = 4 := ⟨rfl, rfl, rfl⟩
theorem lkc : beginS lk0 p1 true = lk1 ∧ beginW lk0 p1 true = 0 := ⟨rfl, rfl⟩
theorem lkd : endS lk1 p1 true ⟨1, 0, 0⟩ = lkh false ∧ endV lk1 p1 true = ⟨0, 0, 0⟩ ∧ endW lk1 p1 true = 0 := ⟨rfl, rfl, rfl⟩
theorem lke : lockS (lkh false) p1 = lkh true ∧ lockR (lkh false) p1 = true ∧ lockW (lkh false) p1 = 0 := ⟨rfl, rfl, rfl⟩
theorem lkf : lockS (lkh true) p1 = lkh true ∧ lockR (lkh true) p1 = false ∧ lockW (lkh true) p1 = 0 := ⟨rfl, rfl, rfl⟩
theorem lkg : unlockS (lkh false) p1 = lkh false ∧ lockW (lkh false) p1 = 0 := ⟨rfl, rfl⟩
theorem lki : unlockS (lkh true) p1 = lkh false ∧ lockW (lkh true) p1 = 0 := ⟨rfl, rfl⟩
theorem rdl0 : Rd lk0 5 := by intro b hb c hc; simp [lk0] at hb; subst hb; simp at hc; subst hc; decide
theorem rdl1 : Rd lk1 5 := by intro b hb c hc; simp [lk1] at hb; subst hb; simp at hc; subst hc; decide

set_option maxRecDepth 100000 in
set_option maxHeartbeats 4000000 in
theorem memLocks_walk (A : Option Addr) (cap : Nat) (l : List Bool) (w : World) (hl : BoolsAt w w.heap.size A l) (hc : l.length ≤ cap) (hm : cap ≤ maxLen) (_hy : cap * 1 ≤ 140737488351232) :
    Calls Try.prog 8 #[.slice A l.length cap] w fun e w' => e = .returned (.bool true) ∧ Below w.heap.size w w' := by
  unfold maxLen at hm
  have HL := Lib.hid hl
  clear hl
  go_enter Try.func8, Try.ntmps8
  go_wp2_with fail
  ((with_reducible refine (wakes_any _).mono ?_); rintro e w0 ⟨rfl, hb0⟩)
  have S0 := Lib.hid ((Sep.start w).quiet hb0)
  clear hb0
  go_wp2_with fail
  ((with_reducible refine (S0.out.newMem rfl).mono ?_); rintro e w1 ⟨rfl, hs⟩)
  generalize w0.heap.size = b at *
  have H := Lib.hid hs
  clear hs S0
  go_wp2_with fail
  ((with_reducible refine (H.out.alloc 0 rfl 1 lka rfl).mono ?_); rintro e w2 ⟨rfl, hs⟩)
  have hq : Sep w (w2.alloc (.cells #[.int .i64 2, .int .i64 0, .int .i64 1] 34)) [memT b lk0, boxT w2.heap.size (vCells p1) 34] := hs.boxV p1 rfl
  generalize hg : w2.heap.size = g at hq
  obtain ⟨x0, x1, x2, x3⟩ := hq.boxAt 1 rfl
  have H2 := Lib.hid hq
  rw [← hg] at x0 x1 x2 x3
  clear hs hq
  go_wp2_with fail
  ((with_reducible refine (H2.out.lock 0 rfl p1 lkb rfl).mono ?_); rintro e w3 ⟨rfl, hs⟩)
  clear x0 x1 x2 x3
  clear hg
  obtain ⟨x0, x1, x2, x3⟩ := hs.boxAt 1 rfl
  have H3 := Lib.hid hs
  clear hs
  go_wp2_with fail
  ((with_reducible refine (H3.out.begin 0 rfl p1 true rdl0 (by decide) lkc rfl).mono ?_); rintro e w4 ⟨rfl, hs⟩)
  clear x0 x1 x2 x3
  obtain ⟨x0, x1, x2, x3⟩ := hs.boxAt 1 rfl
  have H4 := Lib.hid hs
  clear hs
  go_wp2_with fail
  ((with_reducible refine (H4.out.end 0 rfl p1 true ⟨1, 0, 0⟩ rdl1 (by decide) lkd rfl).mono ?_); rintro e w5 ⟨rfl, hs⟩)
  clear x0 x1 x2 x3
  have H5 := Lib.hid hs
  clear hs
  go_wp2
  go_loopw [38, 8] (fun i hv wr => ∃ (k : Nat) (h : Bool), k ≤ l.length ∧ i = .int .i64 k ∧ hv = .bool h ∧ Sep w wr [memT b (lkh h), boxT g (vCells p1) 34]) (fun i _ _ => l.length - (intOf i).toNat)
  case atStart => exact ⟨0, false, by omega, rfl, rfl, H5.out⟩
  case round =>
    obtain ⟨k, h, hk, rfl, rfl, hs⟩ := hrel
    by_cases hlt : k < l.length
    · obtain ⟨ab, off, rfl, d0⟩ := HL.out.at hs.below hlt
      obtain ⟨x0, x1, x2, x3⟩ := hs.boxAt 1 rfl
      have HR := Lib.hid hs
      clear hs
      generalize l.getD k false = y at *
      have hk1 : (k : Int) < (l.length : Int) := by omega
      cases y <;> cases h
      · go_wp2_with fail
        ((with_reducible refine (HR.out.unlock 0 rfl p1 lkg rfl).mono ?_); rintro e w6 ⟨rfl, hs6⟩)
        have H6 := Lib.hid hs6
        clear hs6 x0 x1 x2 x3 d0
        go_wp2
        go_roundw
        case rel => exact ⟨k + 1, false, by omega, by go_num, rfl, H6.out⟩
        case measure => simp [intOf]; omega
      · go_wp2_with fail
        ((with_reducible refine (HR.out.unlock 0 rfl p1 lki rfl).mono ?_); rintro e w6 ⟨rfl, hs6⟩)
        have H6 := Lib.hid hs6
        clear hs6 x0 x1 x2 x3 d0
        go_wp2
        go_roundw
        case rel => exact ⟨k + 1, false, by omega, by go_num, rfl, H6.out⟩
        case measure => simp [intOf]; omega
      · go_wp2_with fail
        ((with_reducible refine (HR.out.lock 0 rfl p1 lke rfl).mono ?_); rintro e w6 ⟨rfl, hs6⟩)
        have H6 := Lib.hid hs6
        clear hs6 x0 x1 x2 x3 d0
        go_wp2
        go_roundw
        case rel => exact ⟨k + 1, true, by omega, by go_num, rfl, H6.out⟩
        case measure => simp [intOf]; omega
      · go_wp2_with fail
        ((with_reducible refine (HR.out.lock 0 rfl p1 lkf rfl).mono ?_); rintro e w6 ⟨rfl, hs6⟩)
        have H6 := Lib.hid hs6
        clear hs6 x0 x1 x2 x3 d0
        go_wp2
        go_roundw
        case rel => exact ⟨k + 1, true, by omega, by go_num, rfl, H6.out⟩
        case measure => simp [intOf]; omega
    · have HR := Lib.hid hs
      clear hs
      go_wp2
      go_ret
      exact ⟨rfl, HR.out.below⟩

theorem memLocks_reads (os : Os) {H : Type} (enc : TypeId × Value → H) : ∃ places, DataW.whole enc Try.prog ((World.holding Try.prog os ⟨#[], #[], []⟩).forCall (fun _ _ => 0) ⟨#[], #[Value.slice none 0 0], []⟩).memory Try.f8.params.toList Rows.memLocksSpec.vars false #[Value.slice none 0 0].toList 8 = some ([.nil], [], places) :=
  ⟨[], by kernel_rfl⟩

set_option maxRecDepth 100000 in
theorem memLocks_lifted (os : Os) (started : os.Started) (H : Type) (enc : TypeId × Value → H) (F : Stop.Interp) :
    ReturnsInHanded {} Try.checked os 8 .any ((OpenSpec.ofChange Rows.memLocksSpec).preRow enc Try.prog Try.f8 Rows.memLocksRow.domain false Rows.memLocksRow.laid) (((OpenSpec.ofChange Rows.memLocksSpec).at F).post enc Try.prog Try.f8 false true false false) := by
  obtain ⟨places, hx⟩ := memLocks_reads os enc
  refine returnsInHanded_of_row (C := Try.checked) (s := OpenSpec.ofChange Rows.memLocksSpec) own started (by kernel_rfl) Try.func8
    (witness_row_at (enc := enc) (C := Try.checked) false (World.holding Try.prog os ⟨#[], #[], []⟩) #[Value.slice none 0 0] rfl (by kernel_rfl) (by kernel_rfl) (by kernel_rfl)
      (OpenSpec.preRow_of_cond 8 hx (by kernel_rfl) (fun k hk => by cases hk) (by kernel_rfl) (laidMet_of_run' 8 (by kernel_rfl) (by kernel_rfl)))) ?_
  intro W base args ds gs before hval hW _ _ hreach _ _ _
  exact bools_contract Try.params8 (by kernel_rfl) rfl (fun _ => rfl) memLocks_walk W base args ds gs before hval hW hreach

theorem memLocks_said : Rows.MemLocksSaid :=
  OpenClaim.holds_of_cond 8 Try.f8 rfl rfl rfl rfl rfl rfl rfl ⟨rfl, rfl, rfl, rfl, rfl⟩ rfl rfl rfl rfl rfl (by kernel_rfl) Try.func8 (by kernel_rfl)
    (of_decide_eq_true (by kernel_rfl)) (by unfold Func.isWrapper; first | (rw [if_pos (by decide +kernel)]; kernel_rfl) | (rw [if_neg (by decide +kernel)]; exact ⟨rfl, rfl⟩))
    (fun os started H enc _ F => by rw [OpenClaim.pre_eq_preRow]; exact memLocks_lifted os started H enc F)

end Go.Proofs.Yteepocmdgkngeaa
