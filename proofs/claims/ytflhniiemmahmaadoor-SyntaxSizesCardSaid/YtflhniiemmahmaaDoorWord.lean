/- The contract of lex.wordAt in a world that holds the tables of lex: the token of the word at a place, or ErrWord; nothing that was in memory is changed. -/
import Derived.Test.YtflhniiemmahmaaDoorNames
namespace Go.Proofs.YtflhniiemmahmaaDoor
open Go.RowKit

structure Tok where
  kind : Nat
  text : ByteArray
  num : Nat
  place : Nat

def zeroTok : Tok := ⟨0, ⟨#[]⟩, 0, 0⟩

def tokCells (t : Tok) : List Value := [.int .i64 t.kind, .string t.text, .int .i64 t.num, .int .i64 t.place]
def tokV (t : Tok) : Value := .agg #[.int .i64 t.kind, .string t.text, .int .i64 t.num, .int .i64 t.place]

/- What is answered: the token and OK, or the zero token and the error. -/
def okR (t : Tok) : Ending := .returned (.tuple #[tokV t, .int .i64 0])
def errR (e : Int) : Ending := .returned (.tuple #[tokV zeroTok, .int .i64 e])

def resR : Except Int Tok → Ending
  | .ok t => okR t
  | .error e => errR e

def wordTok (s : ByteArray) (k : Nat) : Except Int Tok :=
  if 16 < endOf isWI s k - k then .error 13
  else if isKeyB (s.extract k (endOf isWI s k)) = true then .ok ⟨2, s.extract k (endOf isWI s k), 0, k⟩
  else .ok ⟨1, s.extract k (endOf isWI s k), 0, k⟩

theorem Tabs.alloc {w : World} {o : Obj} (h : Tabs w) : Tabs (w.alloc o) := h.below ((Below.refl _ _).alloc (Nat.le_refl _) o) h.size

set_option maxHeartbeats 400000 in
theorem wordAt_any (s : ByteArray) (k : Nat) (w : World) (hs : s.size ≤ maxLen) (hk : k < s.size) (ht : Tabs w) :
    Calls Tryd.prog 40 #[.string s, .int .i64 k] w fun e w' => e = resR (wordTok s k) ∧ Below w.heap.size w w' := by
  have hge := endOf_ge isWI s k
  have hle := endOf_le isWI s k (by omega)
  generalize hE : endOf isWI s k = E at *
  have HE := Lib.hid hE
  clear hE
  go_enter Tryd.func40, Tryd.ntmps40
  go_wp2_with fail
  refine (runEnd_word _ _ _ hs (by omega) (by omega)).mono ?_
  rintro e w' ⟨rfl, rfl⟩
  rw [Int.toNat_natCast, HE.out]
  go_wp2_with fail
  · have hr : wordTok s k = .error 13 := by unfold wordTok; rw [HE.out, if_pos (by omega)]
    rw [hr]
    exact bodyPost_ret (v := .tuple #[tokV zeroTok, .int .i64 13]) (by simp [results, Tryd.results40, go_sem, tokV, zeroTok]) rfl ⟨rfl, (Below.refl _ _).alloc (Nat.le_refl _) _⟩
  · cases hkey : isKeyB (s.extract k E)
    · have hr : wordTok s k = .ok ⟨1, s.extract k E, 0, k⟩ := by unfold wordTok; rw [HE.out, if_neg (by omega), if_neg (by simp [hkey])]
      have HR := Lib.hid hr
      clear hr
      refine (isKey_any _ _ ht.alloc).mono ?_
      rintro e w' ⟨rfl, rfl⟩
      rw [hkey]
      go_wp2
      rw [HR.out]
      exact bodyPost_ret (v := .tuple #[tokV ⟨1, s.extract k E, 0, k⟩, .int .i64 0]) (by simp [results, Tryd.results40, go_sem, tokV]) rfl ⟨rfl, by go_grown⟩
    · have hr : wordTok s k = .ok ⟨2, s.extract k E, 0, k⟩ := by unfold wordTok; rw [HE.out, if_neg (by omega), if_pos (by simp [hkey])]
      have HR := Lib.hid hr
      clear hr
      refine (isKey_any _ _ ht.alloc).mono ?_
      rintro e w' ⟨rfl, rfl⟩
      rw [hkey]
      go_wp2
      rw [HR.out]
      exact bodyPost_ret (v := .tuple #[tokV ⟨2, s.extract k E, 0, k⟩, .int .i64 0]) (by simp [results, Tryd.results40, go_sem, tokV]) rfl ⟨rfl, by go_grown⟩

end Go.Proofs.YtflhniiemmahmaaDoor
