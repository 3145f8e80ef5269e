/- The linker in memory; the contracts of its methods that only read: isLib, resolve, check, main. -/
import Derived.Test.YtnmpfpnldcgbaaaDoorLnk1
import Derived.Deep.QuietTactic
import Derived.BigQuiet
namespace Go.Proofs.YtnmpfpnldcgbaaaDoor
open Go.RowKit Go.Maps

/- A look-up of a name. -/
theorem MapAt.look {w : World} {M : Nat} {cs : List Cod} (h : MapAt w M cs) {s : ByteArray} (hs : s.size ≤ maxLen) :
    ∃ c : Int, (∀ k, findN cs s = some k → c = (k : Int)) ∧ ∀ W : World, W.heap[M]? = w.heap[M]? → (Instr.lookup 66 (.map (some M)) (.string s) true).run Tryd.prog W = .ok (.tuple #[.int .i64 c, .bool (findN cs s).isSome]) W := by
  obtain ⟨n, D, ho, hn, hI, hD⟩ := h
  have hkey : keyOf Tryd.prog 9 (.string s) = some (keyL s) := WideMaps.keyOf_string_mk Tryd.underlying9 hs
  have one : ∀ W : World, W.heap[M]? = w.heap[M]? → ∃ c : Int, D.atKey (keyL s) (.lit (.int .i64 0)) = .lit (.int .i64 c) ∧ (Instr.lookup 66 (.map (some M)) (.string s) true).run Tryd.prog W = .ok (.tuple #[.int .i64 c, .bool (findN cs s).isSome]) W := fun W hW => by
    have hoW : W.ownsMap Tryd.prog 9 (plainElem Tryd.prog 3) M n D := by
      obtain ⟨es, clock, hb, hr⟩ := ho
      exact ⟨es, clock, hW.trans hb, hr⟩
    obtain ⟨v, ps, hrun, hv⟩ := hoW.look_ok lawStr Tryd.underlying66 (zeroInt W) (plainElem_int Tryd.underlying3 (by decide)) hkey
    obtain ⟨c, rfl, hc, _⟩ := plainElem_int_inv Tryd.underlying3 hv
    refine ⟨c, congrArg Prod.fst hc, ?_⟩
    rw [hrun, (hD s).1]
  obtain ⟨c, hc, _⟩ := one w rfl
  refine ⟨c, fun k hk => ?_, fun W hW => ?_⟩
  · have h2 := (hD s).2 k hk
    rw [hc] at h2
    simpa using h2
  · obtain ⟨c', hc', hr⟩ := one W hW
    rw [hc] at hc'
    have e : c' = c := by simpa using hc'.symm
    rw [← e]
    exact hr
theorem MapAt.same {w w' : World} {M : Nat} {cs : List Cod} (h : MapAt w M cs) (e : w'.heap[M]? = w.heap[M]?) : MapAt w' M cs := by
  obtain ⟨n, D, ⟨es, clock, hb, hr⟩, h2⟩ := h
  exact ⟨n, D, ⟨es, clock, e.trans hb, hr⟩, h2⟩
/- A name more. -/
theorem MapAt.snoc {w1 : World} {M n : Nat} {cs : List Cod} {c : Cod} {D : DataW Unit} (hn : n ≤ cs.length) (hI : IsMap D) (hD : ∀ s : ByteArray, Maps.has D (keyL s) = (findN cs s).isSome ∧ ∀ k, findN cs s = some k → D.atKey (keyL s) (.lit (.int .i64 0)) = .lit (.int .i64 k))
    (ho : w1.ownsMap Tryd.prog 9 (plainElem Tryd.prog 3) M (n + 1) (D.put (keyL c.name) (.lit (.int .i64 (cs.length : Nat))))) (hf : findN cs c.name = none) : MapAt w1 M (cs ++ [c]) := by
  refine ⟨n + 1, _, ho, by simp; omega, hI.put _ _, fun s => ?_⟩
  rw [findN_snoc]
  by_cases he : c.name.toList = s.toList
  · have hk : keyL s = keyL c.name := (keyL_eq s c.name).2 he.symm
    have hs : findN cs s = none := by
      have : ∀ l : List Cod, findN l s = findN l c.name := by
        intro l
        induction l with
        | nil => rfl
        | cons a l ih => rw [findN, findN, ih, he]
      rw [this]; exact hf
    have hb : (c.name.toList == s.toList) = true := by simpa using he
    rw [hs, hk, has_put_same hI (by unfold keyL; trivial)]
    refine ⟨by simp [hb], fun k hk2 => ?_⟩
    rw [atKey_put_same hI (by unfold keyL; trivial)]
    simp only [hb, cond_true, Option.some.injEq] at hk2
    rw [← hk2]
  · have hk : keyL s ≠ keyL c.name := fun e => he ((keyL_eq s c.name).1 e).symm
    have hb : (c.name.toList == s.toList) = false := by simpa using he
    rw [has_put_other hk, atKey_put_other hk, (hD s).1]
    cases hs : findN cs s with
    | none => simp [hb]
    | some k =>
      refine ⟨rfl, fun k' hk' => ?_⟩
      have e : k = k' := Option.some.inj hk'
      rw [← e]
      exact (hD s).2 k hs

/- The linker: its codes, how many are of the libraries, the map. -/
def lkCells (v : Value) (libs M : Nat) : List Value := [v, .int .i64 libs, .map (some M)]
structure LkSt (w : World) (B L M : Nat) (cs : List Cod) (libs : Nat) (v : Value) : Prop where
  l : Blk w L (lkCells v libs M) 98
  c : CodsAt w cs (fun b => B ≤ b ∧ b ≠ L ∧ b ≠ M) v
  m : MapAt w M cs
  lo : B ≤ L ∧ B ≤ M
  ne : L ≠ M
theorem LkSt.below {w w' : World} {B L M : Nat} {cs : List Cod} {libs : Nat} {v : Value} (h : LkSt w B L M cs libs v) (hb : Below w.heap.size w w') : LkSt w' B L M cs libs v := ⟨h.l.stays hb, h.c.below hb, h.m.below hb, h.lo, h.ne⟩
theorem LkSt.alloc {w : World} {B L M : Nat} {cs : List Cod} {libs : Nat} {v : Value} (h : LkSt w B L M cs libs v) (o : Obj) : LkSt (w.alloc o) B L M cs libs v := h.below ((Below.refl _ _).alloc (Nat.le_refl _) _)
theorem LkSt.drew {w : World} {B L M : Nat} {cs : List Cod} {libs : Nat} {v : Value} (h : LkSt w B L M cs libs v) : LkSt w.drew B L M cs libs v := h.below (Below.refl _ _).drew

theorem KAt.own {e : TypeId} {w : World} {ks : List T} {S : Nat → Prop} {g n c : Nat} (h : KAt e w ks S (.slice (some ⟨g, 0, none⟩) n c)) : S g := by
  obtain ⟨_, _, hS, _⟩ := h
  exact hS g rfl

theorem isLib_any {w : World} {L M libs : Nat} {v : Value} (h : Blk w L (lkCells v libs M) 98) (n : Int) :
    Calls Tryd.prog 65 #[.pointer (some ⟨L, 0, none⟩), .int .i64 n] w fun e w' => e = .returned (.bool (decide (n < (libs : Int)))) ∧ w = w' := by
  have hc1 : w.cell? ⟨L, 1, none⟩ = some (.int .i64 (libs : Int)) := h.cell 1
  go_enter Tryd.func65, Tryd.ntmps65
  go_wp2_with fail
  go_ret
  exact ⟨rfl, rfl⟩

end Go.Proofs.YtnmpfpnldcgbaaaDoor
