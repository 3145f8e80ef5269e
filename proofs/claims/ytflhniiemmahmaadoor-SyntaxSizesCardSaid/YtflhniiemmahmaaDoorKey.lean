/- The contract of lex.IsKey in a world that holds the table of key words, and of lychgateref01.IsKey in any world: each returns whether the text is one of the twenty key words, and leaves the world as it was. -/
import Derived.Test.YtflhniiemmahmaaDoorLeaf
import Derived.Deep.MidRow
namespace Go.Proofs.YtflhniiemmahmaaDoor
open Go.RowKit

def keyList : List (List UInt8) :=
  [[116, 121, 112, 101], [102, 110], [111, 119, 110], [99, 101, 108, 108], [99, 111, 117, 110, 116, 101, 100], [108, 111, 99, 107], [103, 117, 97, 114, 100], [119, 104, 101, 114, 101], [105, 110, 116], [109, 117, 116],
   [102, 114, 101, 101], [117, 110, 108, 111, 99, 107], [105, 102], [101, 108, 115, 101], [119, 104, 105, 108, 101], [114, 101, 116, 117, 114, 110], [97, 98, 111, 114, 116], [102, 111, 114, 107], [110, 101, 119], [97, 114, 114, 97, 121]]

def keyAt (i : Nat) : ByteArray := ⟨(keyList.getD i []).toArray⟩

/- Is it one of the key words from the i-th on? -/
def keyFrom (i : Nat) (s : ByteArray) : Bool := (keyList.drop i).contains s.data.toList
def isKeyB (s : ByteArray) : Bool := keyFrom 0 s

def pairAt (i : Nat) : ByteArray := ⟨([[45, 62], [60, 61], [61, 61]].getD i ([] : List UInt8)).toArray⟩

/- The tables' blocks lie below a number. -/
def TabsIn (B : Nat) : Prop := 0 < B ∧ 2 < B ∧ 1 < B

/- The world holds the tables of lex: blanks, key words, signs of two bytes. -/
structure Tabs (w : World) : Prop where
  b0 : w.cell? ⟨0, 0, none⟩ = some (.int .u8 32)
  b1 : w.cell? ⟨0, 1, none⟩ = some (.int .u8 10)
  keys : ∀ i, i < 20 → w.cell? ⟨2, i, none⟩ = some (.string (keyAt i))
  pairs : ∀ i, i < 3 → w.cell? ⟨1, i, none⟩ = some (.string (pairAt i))
  size : TabsIn w.heap.size

theorem Tabs.below {w w' : World} {B : Nat} (h : Tabs w) (hb : Below B w w') (hB : TabsIn B) : Tabs w' :=
  ⟨(hb.cell (p := ⟨0, 0, none⟩) hB.1).trans h.b0, (hb.cell (p := ⟨0, 1, none⟩) hB.1).trans h.b1,
   fun i hi => (hb.cell (p := ⟨2, i, none⟩) hB.2.1).trans (h.keys i hi), fun i hi => (hb.cell (p := ⟨1, i, none⟩) hB.2.2).trans (h.pairs i hi),
   ⟨Nat.lt_of_lt_of_le h.size.1 hb.size, Nat.lt_of_lt_of_le h.size.2.1 hb.size, Nat.lt_of_lt_of_le h.size.2.2 hb.size⟩⟩

def keyVals : List Value := (List.range 20).map fun i => .string (keyAt i)

theorem keyVals_get (j : Nat) (hj : j < 20) : keyVals[j]? = some (.string (keyAt j)) := by
  unfold keyVals
  rw [List.getElem?_map, List.getElem?_range hj]
  rfl

theorem keyVals_len : keyVals.length = 20 := by unfold keyVals; simp

theorem keyVals_at (w : World) (ht : Tabs w) : w.rangeAt 2 0 keyVals := by
  intro j v hv
  have hj : j < 20 := by
    have := (List.getElem?_eq_some_iff.1 hv).1
    rwa [keyVals_len] at this
  rw [keyVals_get j hj] at hv
  rw [Nat.zero_add, ht.keys j hj, hv]

theorem cellsKeys : (Tryd.prog.info? 93).map (·.size) = some keyVals.length := by kernel_rfl

theorem keyFrom_yes (k : Nat) (s : ByteArray) (hk : k < 20) (h : (s.toList == (keyAt k).toList) = true) : keyFrom k s = true := by
  have hl : k < keyList.length := hk
  have hg : keyList.getD k [] = keyList[k] := by simp [hl]
  unfold keyFrom
  rw [List.drop_eq_getElem_cons hl, List.contains_cons]
  have : (s.data.toList == keyList[k]) = true := by
    rw [← hg]
    rw [ByteArray.toList_eq, ByteArray.toList_eq] at h
    simpa [keyAt] using h
  rw [this]
  rfl

theorem keyFrom_no (k : Nat) (s : ByteArray) (hk : k < 20) (h : (s.toList == (keyAt k).toList) = false) : keyFrom k s = keyFrom (k + 1) s := by
  have hl : k < keyList.length := hk
  have hg : keyList.getD k [] = keyList[k] := by simp [hl]
  unfold keyFrom
  rw [List.drop_eq_getElem_cons hl, List.contains_cons]
  have : (s.data.toList == keyList[k]) = false := by
    rw [← hg]
    rw [ByteArray.toList_eq, ByteArray.toList_eq] at h
    simpa [keyAt] using h
  rw [this]
  rfl

theorem keyFrom_end (s : ByteArray) : keyFrom 20 s = false := rfl

theorem run_index_agg {P : Program} {t e : TypeId} {len k : Nat} {cs : List Value} {v : Value} (ht : P.underlying t = some (.array len e)) (he : ∀ w, (isAgg e).run P w = .ok false w) (hs : (P.info? e).map (·.size) = some 1)
    (hk : k < len) (hv : cs[k]? = some v) (w : World) : (Instr.index t (.agg cs.toArray) (.int .i64 k)).run P w = .ok v w := by
  cases hq : P.info? e with
  | none => simp [hq] at hs
  | some i =>
    have hs' : i.size = 1 := by simpa [hq] using hs
    have h2 : ((k : Int) < (len : Int)) := by omega
    have h3 : (0 : Int) ≤ (k : Int) := by omega
    simp [Instr.index, asIntOf, run_underlying ht, part, he, sizeOf, typeInfo, hq, hs', hv]
    omega

theorem strAgg (w : World) : (isAgg 9).run Tryd.prog w = .ok false w := by
  unfold isAgg
  rw [Sem.run_bind, run_underlying Tryd.underlying9 w]
  rfl
theorem strSize : (Tryd.prog.info? 9).map (·.size) = some 1 := by kernel_rfl

set_option maxHeartbeats 400000 in
theorem isKey_any (s : ByteArray) (w : World) (ht : Tabs w) :
    Calls Tryd.prog 54 #[.string s] w fun e w' => e = .returned (.bool (isKeyB s)) ∧ w = w' := by
  have hr := Lib.hid (keyVals_at w ht)
  go_enter Tryd.func54, Tryd.ntmps54
  go_wp2_with (with_reducible refine wpList_load_mid rfl 93 (.global 2) rfl 2 0 rfl keyVals _ hr.out Tryd.underlying93 rfl cellsKeys ?_)
  go_loop [6] (fun i => ∃ k : Nat, k ≤ 20 ∧ i = .int .i64 k ∧ keyFrom k s = isKeyB s) (fun i => 20 - (intOf i).toNat)
  case atStart => exact ⟨0, by omega, rfl, rfl⟩
  case round =>
    obtain ⟨k, hk, rfl, hrl⟩ := hrel
    have HR := Lib.hid hrl
    clear hrl
    by_cases hlt : k < 20
    · have hidx := run_index_agg (P := Tryd.prog) Tryd.underlying93 strAgg strSize hlt (keyVals_get k hlt) w
      have hlt' : (k : Int) < 20 := by omega
      cases hc : (s.toList == (keyAt k).toList)
      · have HN := Lib.hid ((keyFrom_no k s hlt hc).symm.trans HR.out)
        go_wp2
        go_round
        case rel => exact ⟨k + 1, by omega, by go_num, HN.out⟩
        case measure => simp [intOf]; omega
      · have HN := Lib.hid ((keyFrom_yes k s hlt hc).symm.trans HR.out)
        go_wp2
        go_ret
        exact ⟨ret_bool HN.out, rfl⟩
    · obtain rfl : k = 20 := by omega
      have HN := Lib.hid ((keyFrom_end s).symm.trans HR.out)
      go_wp2
      go_ret
      exact ⟨ret_bool HN.out, rfl⟩

end Go.Proofs.YtflhniiemmahmaaDoor
