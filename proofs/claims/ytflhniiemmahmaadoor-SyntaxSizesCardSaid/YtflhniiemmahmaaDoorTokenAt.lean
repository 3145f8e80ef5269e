/- The contract of lex.tokenAt in a world that holds the tables of lex: the token at a place that is no blank, or the fault there; nothing that was in memory is changed. -/
import Derived.Test.YtflhniiemmahmaaDoorNumber
namespace Go.Proofs.YtflhniiemmahmaaDoor
open Go.RowKit

def tokOf : Except Int Tok → Tok
  | .ok t => t
  | .error _ => zeroTok
def errOf : Except Int Tok → Int
  | .ok _ => 0
  | .error e => e

theorem resR_eq (x : Except Int Tok) : resR x = .returned (.tuple #[tokV (tokOf x), .int .i64 (errOf x)]) := by cases x <;> rfl

def tokAt (s : ByteArray) (k : Nat) : Except Int Tok :=
  if isLI ((bat s k).toNat : Int) = true then wordTok s k else if isDI ((bat s k).toNat : Int) = true then numTok s k else signTok s k

theorem bcell {W w1 : World} (hb : Below W.heap.size W w1) : (∀ b o, b < W.heap.size → w1.cell? ⟨b, o, none⟩ = W.cell? ⟨b, o, none⟩) ∧ (∀ b o, b < W.heap.size → w1.frozen? ⟨b, o, none⟩ = W.frozen? ⟨b, o, none⟩) :=
  ⟨fun b o h => hb.cell (p := ⟨b, o, none⟩) h, fun b o h => hb.frozen (p := ⟨b, o, none⟩) h⟩

set_option maxHeartbeats 400000 in
theorem tokenAt_any (s : ByteArray) (k : Nat) (w : World) (hs : s.size ≤ maxLen) (hk : k < s.size) (ht : Tabs w) :
    Calls Tryd.prog 27 #[.string s, .int .i64 k] w fun e w' => e = resR (tokAt s k) ∧ Below w.heap.size w w' := by
  have hs' := hs
  unfold maxLen at hs'
  cases hl : isLI (s[k].toNat : Int)
  · cases hd : isDI (s[k].toNat : Int)
    · have hr : tokAt s k = signTok s k := by unfold tokAt; rw [bat_eq s k hk, if_neg (by simp [hl]), if_neg (by simp [hd])]
      rw [hr, resR_eq]
      clear hr
      generalize hx : signTok s k = x
      have HX := Lib.hid hx
      clear hx
      go_enter Tryd.func27, Tryd.ntmps27
      go_wp2_with (first
        | (go_at_call 39; refine (beginsWord_any _ _).mono ?_; rintro e w' ⟨rfl, rfl⟩)
        | (go_at_call 41; refine (isDigit_any _ _).mono ?_; rintro e w' ⟨rfl, rfl⟩))
      refine (signAt_any s k _ hs hk ht.alloc).mono ?_
      rintro e w1 ⟨rfl, hb⟩
      rw [resR_eq, HX.out]
      obtain ⟨hc, hf⟩ := bcell hb
      have hz : w.heap.size + 1 ≤ w1.heap.size := by have := hb.size; simp at this; omega
      have HB := Lib.hid (((Below.refl w.heap.size w).alloc (Nat.le_refl _) _).trans (hb.mono (by simp)))
      clear hb
      unfold tokV
      go_wp2
      exact bodyPost_ret (v := .tuple #[tokV (tokOf x), .int .i64 (errOf x)]) (by simp [results, Tryd.results27, go_sem, tokV, hc]) rfl ⟨rfl, by repeat (first | exact HB.out | refine Below.setCell ?_ (by simp) _)⟩
    · have hr : tokAt s k = numTok s k := by unfold tokAt; rw [bat_eq s k hk, if_neg (by simp [hl]), if_pos (by simp [hd])]
      rw [hr, resR_eq]
      clear hr
      generalize hx : numTok s k = x
      have HX := Lib.hid hx
      clear hx
      go_enter Tryd.func27, Tryd.ntmps27
      go_wp2_with (first
        | (go_at_call 39; refine (beginsWord_any _ _).mono ?_; rintro e w' ⟨rfl, rfl⟩)
        | (go_at_call 41; refine (isDigit_any _ _).mono ?_; rintro e w' ⟨rfl, rfl⟩))
      refine (numberAt_any s k _ hs hk).mono ?_
      rintro e w1 ⟨rfl, hb⟩
      rw [resR_eq, HX.out]
      obtain ⟨hc, hf⟩ := bcell hb
      have hz : w.heap.size + 1 ≤ w1.heap.size := by have := hb.size; simp at this; omega
      have HB := Lib.hid (((Below.refl w.heap.size w).alloc (Nat.le_refl _) _).trans (hb.mono (by simp)))
      clear hb
      unfold tokV
      go_wp2
      exact bodyPost_ret (v := .tuple #[tokV (tokOf x), .int .i64 (errOf x)]) (by simp [results, Tryd.results27, go_sem, tokV, hc]) rfl ⟨rfl, by repeat (first | exact HB.out | refine Below.setCell ?_ (by simp) _)⟩
  · · have hr : tokAt s k = wordTok s k := by unfold tokAt; rw [bat_eq s k hk, if_pos (by simp [hl])]
      rw [hr, resR_eq]
      clear hr
      generalize hx : wordTok s k = x
      have HX := Lib.hid hx
      clear hx
      go_enter Tryd.func27, Tryd.ntmps27
      go_wp2_with (first
        | (go_at_call 39; refine (beginsWord_any _ _).mono ?_; rintro e w' ⟨rfl, rfl⟩)
        | (go_at_call 41; refine (isDigit_any _ _).mono ?_; rintro e w' ⟨rfl, rfl⟩))
      refine (wordAt_any s k _ hs hk ht.alloc).mono ?_
      rintro e w1 ⟨rfl, hb⟩
      rw [resR_eq, HX.out]
      obtain ⟨hc, hf⟩ := bcell hb
      have hz : w.heap.size + 1 ≤ w1.heap.size := by have := hb.size; simp at this; omega
      have HB := Lib.hid (((Below.refl w.heap.size w).alloc (Nat.le_refl _) _).trans (hb.mono (by simp)))
      clear hb
      unfold tokV
      go_wp2
      exact bodyPost_ret (v := .tuple #[tokV (tokOf x), .int .i64 (errOf x)]) (by simp [results, Tryd.results27, go_sem, tokV, hc]) rfl ⟨rfl, by repeat (first | exact HB.out | refine Below.setCell ?_ (by simp) _)⟩

end Go.Proofs.YtflhniiemmahmaaDoor
