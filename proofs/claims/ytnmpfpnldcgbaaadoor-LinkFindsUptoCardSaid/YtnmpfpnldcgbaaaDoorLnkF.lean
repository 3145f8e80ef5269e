/- The contract of Find on an image. -/
import Derived.Test.YtnmpfpnldcgbaaaDoorLnk6
namespace Go.Proofs.YtnmpfpnldcgbaaaDoor
open Go.RowKit Go.Maps

def libB (r : Option Nat) (libs : Int) : Bool := match r with | some k => decide ((k : Int) < libs) | none => false
def FiRel (w : World) (cs : List Cod) (s : ByteArray) (libs main : Int) (v : Value) (g : Nat) (i : Value) (wr : World) : Prop :=
  ∃ k : Nat, k ≤ cs.length ∧ cs.length ≤ k + g ∧ i = .int .i64 k ∧ findN cs s = (findN (cs.drop k) s).map (· + k) ∧ Blk wr w.heap.size [v, .int .i64 libs, .int .i64 main] 60 ∧ Below w.heap.size w wr
theorem findN_cons (c : Cod) (cs : List Cod) (s : ByteArray) : findN (c :: cs) s = bif c.name.toList == s.toList then some 0 else (findN cs s).map (· + 1) := by rw [findN]
theorem toList_eq_iff {a b : ByteArray} : a.toList = b.toList ↔ a = b := by
  rw [ByteArray.toList_eq, ByteArray.toList_eq]
  constructor
  · intro h
    cases a; cases b
    simpa using h
  · rintro rfl; rfl

set_option maxRecDepth 100000 in
set_option maxHeartbeats 1000000 in
theorem find_any {w : World} {cs : List Cod} {S : Nat → Prop} {v : Value} (hc : CodsAt w cs S v) (libs main : Int) (s : ByteArray) :
    Calls Tryd.prog 24 #[.agg #[v, .int .i64 libs, .int .i64 main], .string s] w fun e w' => e = .returned (.tuple #[.int .i64 (((findN cs s).getD 0 : Nat) : Int), .bool (libB (findN cs s) libs), .bool (findN cs s).isSome]) ∧ Below w.heap.size w w' := by
  have HB := Lib.hid (show Below w.heap.size w (w.alloc (.cells [v, .int .i64 libs, .int .i64 main].toArray 60)) from (Below.refl _ _).alloc (Nat.le_refl _) _)
  have HI := Lib.hid (Blk.new w [v, .int .i64 libs, .int .i64 main] 60)
  rcases hc.form with ⟨rfl, hnil⟩ | ⟨g, cap, rfl, hg, hcap, hcm, hget⟩
  · have HN := Lib.hid hnil
    clear hc hnil
    go_enter Tryd.func24, Tryd.ntmps24
    go_wp2_with fail
    refine wp_loop_rounds 1 ?_
    rw [rounds_succ]
    go_wp2_with fail
    go_ret3
    rw [HN.out]
    exact ⟨rfl, HB.out⟩
  · have HG := Lib.hid hget
    have HCAP := Lib.hid hcap
    have hg2 := hg.2
    clear hc hget hcap hg
    unfold maxLen at hcm
    go_enter Tryd.func24, Tryd.ntmps24
    go_wp2_with fail
    go_loopg [12] cs.length (fun gk i wr => FiRel w cs s libs main (.slice (some ⟨g, 0, none⟩) cs.length cap) gk i wr)
    case atStart => exact ⟨0, by omega, by omega, rfl, by rw [List.drop_zero]; cases findN cs s <;> rfl, HI.out, HB.out⟩
    case round =>
      obtain ⟨k, hk, hgk, rfl, hfi, hbi, hbel⟩ := hrel
      have HBW := Lib.hid hbel
      have HFI := Lib.hid hfi
      have HBI := Lib.hid hbi
      have hzw := hbel.size
      clear hbel hfi hbi
      by_cases hlt : k < cs.length
      · obtain ⟨pv, lv, hr, hca⟩ := HG.out k cs[k] (List.getElem?_eq_getElem hlt)
        have HDR := Lib.hid (show findN cs s = ((bif cs[k].name.toList == s.toList then some 0 else (findN (cs.drop (k + 1)) s).map (· + 1)).map (· + k)) by rw [HFI.out, List.drop_eq_getElem_cons hlt, findN_cons])
        generalize cs[k] = cd at hr hca HDR
        obtain ⟨pa, pc, rfl⟩ := hca.1.slice
        obtain ⟨la, lc, rfl⟩ := hca.2.slice
        have HR := Lib.hid (show wr.rangeAt g (k * 3) [.string cd.name, .slice pa cd.params.length pc, .slice la cd.list.length lc] from rangeAt_below hr HBW.out hg2)
        have hcap := HCAP.out
        obtain ⟨W, hW⟩ : ∃ W, wr.alloc (.cells [.string cd.name, .slice pa cd.params.length pc, .slice la cd.list.length lc].toArray 55) = W := ⟨_, rfl⟩
        have HBN := Lib.hid (show Below w.heap.size w W from hW ▸ HBW.out.alloc hzw _)
        have HBJ := Lib.hid (show Blk W w.heap.size [.slice (some ⟨g, 0, none⟩) cs.length cap, .int .i64 libs, .int .i64 main] 60 from hW ▸ HBI.out.alloc _)
        have n0 : W.cell? ⟨wr.heap.size, 0, none⟩ = some (.string cd.name) := hW ▸ (Blk.new wr [.string cd.name, .slice pa cd.params.length pc, .slice la cd.list.length lc] 55).cell 0
        have i1 : W.cell? ⟨w.heap.size, 1, none⟩ = some (.int .i64 libs) := HBJ.out.cell 1
        clear hr hca
        by_cases he : cd.name = s
        · have hb : (cd.name.toList == s.toList) = true := by simp [he]
          have HX := Lib.hid (show findN cs s = some k by rw [HDR.out, hb]; simp)
          subst he
          go_wp2_with (first
            | ((with_reducible refine at_ld 55 (.tmp 15) ?_); refine wpList_load_mid rfl 55 (.tmp 15) rfl g (k * 3) rfl [.string cd.name, .slice pa cd.params.length pc, .slice la cd.list.length lc] _ HR.out Tryd.underlying55 rfl Tryd.sizeCode ?_)
            | ((with_reducible refine at_st 55 (.tmp 8) ?_); refine wpList_store_new rfl 55 (.tmp 8) (.tmp 16) rfl [.string cd.name, .slice pa cd.params.length pc, .slice la cd.list.length lc] (old := codCells cod0 (.slice none 0 0) (.slice none 0 0)) rfl rfl Tryd.sizeCode rfl (by intro x hx; simp only [List.mem_cons, List.not_mem_nil, or_false] at hx; rcases hx with rfl | rfl | rfl <;> rfl) ?_))
          go_quiet (fail)
          go_wp2_with fail
          go_ret3
          rw [HX.out]
          exact ⟨rfl, below_nqL HBN.out _⟩
        · have hb : (cd.name.toList == s.toList) = false := by simp; exact fun h => he (toList_eq_iff.1 h)
          have HX := Lib.hid (show findN cs s = (findN (cs.drop (k + 1)) s).map (· + (k + 1)) by rw [HDR.out, hb]; cases findN (cs.drop (k + 1)) s <;> simp; omega)
          go_wp2_with (first
            | ((with_reducible refine at_ld 55 (.tmp 15) ?_); refine wpList_load_mid rfl 55 (.tmp 15) rfl g (k * 3) rfl [.string cd.name, .slice pa cd.params.length pc, .slice la cd.list.length lc] _ HR.out Tryd.underlying55 rfl Tryd.sizeCode ?_)
            | ((with_reducible refine at_st 55 (.tmp 8) ?_); refine wpList_store_new rfl 55 (.tmp 8) (.tmp 16) rfl [.string cd.name, .slice pa cd.params.length pc, .slice la cd.list.length lc] (old := codCells cod0 (.slice none 0 0) (.slice none 0 0)) rfl rfl Tryd.sizeCode rfl (by intro x hx; simp only [List.mem_cons, List.not_mem_nil, or_false] at hx; rcases hx with rfl | rfl | rfl <;> rfl) ?_))
          go_roundg (gk - 1)
          case measure => omega
          case rel => exact ⟨k + 1, by omega, by omega, by go_num, HX.out, HBJ.out, HBN.out⟩
      · have HX := Lib.hid (show findN cs s = none by rw [HFI.out, List.drop_of_length_le (by omega)]; rfl)
        go_wp2_with fail
        go_ret3
        rw [HX.out]
        exact ⟨rfl, HBW.out⟩

end Go.Proofs.YtnmpfpnldcgbaaaDoor
