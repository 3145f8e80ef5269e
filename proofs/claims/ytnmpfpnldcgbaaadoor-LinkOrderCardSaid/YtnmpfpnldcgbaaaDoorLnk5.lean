/- The contract of the linker's check. -/
import Derived.Test.YtnmpfpnldcgbaaaDoorLnk3
import Derived.Test.YtnmpfpnldcgbaaaDoorP33
namespace Go.Proofs.YtnmpfpnldcgbaaaDoor
open Go.RowKit Go.Maps

/- Of an instruction that neither calls nor forks. -/
set_option maxRecDepth 100000 in
set_option maxHeartbeats 2000000 in
theorem resolve_no {w : World} {L : Nat} {cs : List Cod} {libs : Nat} {op : Int} {pl : Nat} {x y an bn : ByteArray} {am bm tt : Int} {A : Option Addr} {n cap : Nat} {has : Bool}
    {i : Ins} (h1 : i.op = op) (hno : ¬ (op = 12 ∨ op = 13)) :
    Calls Tryd.prog 64 #[.pointer (some ⟨L, 0, none⟩), .agg #[.int .i64 op, .int .i64 pl, .string x, .string y, .string an, .int .i64 am, .string bn, .int .i64 bm, .slice A n cap, .int .i64 tt, .bool has]] w fun e w' => e = .returned (.int .i64 (resL cs libs i)) ∧ Below w.heap.size w w' := by
  have b1 : (op == 12) = false := by simp; omega
  have b2 : (op == 13) = false := by simp; omega
  have b3 : (op != 12) = true := by simp; omega
  have b4 : (op != 13) = true := by simp; omega
  have HR := Lib.hid (show resL cs libs i = 0 by unfold resL; rw [h1, b1, b2]; rfl)
  have HB := Lib.hid (show Below w.heap.size w (w.alloc (.cells [.int .i64 op, .int .i64 pl, .string x, .string y, .string an, .int .i64 am, .string bn, .int .i64 bm, .slice A n cap, .int .i64 tt, .bool has].toArray 43)) from (Below.refl _ _).alloc (Nat.le_refl _) _)
  clear h1 hno
  go_enter Tryd.func64, Tryd.ntmps64
  go_wp2_with fail
  go_ret
  refine ⟨?_, HB.out⟩
  rw [HR.out]
  rfl

def YOk (is : List Ins) : Prop := ∀ i ∈ is, (i.op = 12 ∨ i.op = 13) → i.y.size ≤ maxLen
theorem resolve_all {w : World} {B L M : Nat} {cs : List Cod} {libs : Nat} {v : Value} (h : LkSt w B L M cs libs v) {i : Ins} (hy : (i.op = 12 ∨ i.op = 13) → i.y.size ≤ maxLen) {A : Option Addr} {cap : Nat} :
    Calls Tryd.prog 64 #[.pointer (some ⟨L, 0, none⟩), .agg #[.int .i64 i.op, .int .i64 i.place, .string i.x, .string i.y, .string i.a.name, .int .i64 i.a.num, .string i.b.name, .int .i64 i.b.num, .slice A i.args.length cap, .int .i64 i.to, .bool i.has]] w fun e w' => e = .returned (.int .i64 (resL cs libs i)) ∧ Below w.heap.size w w' := by
  by_cases hc : i.op = 12 ∨ i.op = 13
  · exact resolve_any h (hy hc) rfl rfl rfl
  · exact resolve_no rfl hc

theorem ArgsAt.len {w : World} {ts : List Tm} {S : Nat → Prop} {v : Value} (h : ArgsAt w ts S v) : ∃ a c, v = .slice a ts.length c := by
  rcases h.1.2 with ⟨rfl, h0⟩ | ⟨g, cap, _, rfl, _⟩
  · exact ⟨_, _, by rw [h0]⟩
  · exact ⟨_, _, rfl⟩
theorem chkL_drop {cs : List Cod} {libs : Nat} {is : List Ins} {k : Nat} {i : Ins} (h : is[k]? = some i) : chkL cs libs (is.drop k) = bif resL cs libs i != 0 then (i.place, resL cs libs i) else chkL cs libs (is.drop (k + 1)) := by
  have hlt := (List.getElem?_eq_some_iff.1 h).1
  have he := (List.getElem?_eq_some_iff.1 h).2
  rw [List.drop_eq_getElem_cons hlt, he, chkL]
def ChRel (w : World) (cs : List Cod) (libs : Nat) (is : List Ins) (g : Nat) (i : Value) (wr : World) : Prop :=
  ∃ k : Nat, k ≤ is.length ∧ is.length ≤ k + g ∧ i = .int .i64 k ∧ Below w.heap.size w wr ∧ chkL cs libs is = chkL cs libs (is.drop k)

set_option maxRecDepth 100000 in
set_option maxHeartbeats 1000000 in
theorem check_any {w : World} {B L M : Nat} {cs : List Cod} {libs : Nat} {v : Value} (h : LkSt w B L M cs libs v) {nm : ByteArray} {pv lv : Value} {is : List Ins} {S : Nat → Prop} (hI : InsAt w is S lv) (hy : YOk is) :
    Calls Tryd.prog 43 #[.pointer (some ⟨L, 0, none⟩), .agg #[.string nm, pv, lv]] w fun e w' => e = .returned (.tuple #[.int .i64 ((chkL cs libs is).1 : Int), .int .i64 (chkL cs libs is).2]) ∧ Below w.heap.size w w' := by
  have HY := Lib.hid hy
  have H := Lib.hid h
  have HB := Lib.hid (show Below w.heap.size w (w.alloc (.cells [.string nm, pv, lv].toArray 55)) from (Below.refl _ _).alloc (Nat.le_refl _) _)
  have hn := hI.one
  rcases hI.form with ⟨rfl, hnil⟩ | ⟨g, cap, rfl, hg, hcap, hcm, hget⟩
  · have HN := Lib.hid hnil
    clear hI hy h hnil
    go_enter Tryd.func43, Tryd.ntmps43
    go_wp2_with fail
    refine wp_loop_rounds 1 ?_
    rw [rounds_succ]
    go_wp2_with fail
    go_ret2
    rw [HN.out]
    exact ⟨rfl, HB.out⟩
  · have HG := Lib.hid hget
    have HCAP := Lib.hid hcap
    clear hI hy h hget hcap
    unfold maxLen at hcm
    go_enter Tryd.func43, Tryd.ntmps43
    go_wp2_with fail
    go_loopg [12] is.length (fun gk i wr => ChRel w cs libs is gk i wr)
    case atStart => exact ⟨0, by omega, by omega, rfl, HB.out, by simp⟩
    case round =>
      obtain ⟨k, hk, hgk, rfl, hbel, hch⟩ := hrel
      have HBW := Lib.hid hbel
      have HCH := Lib.hid hch
      have hzw := hbel.size
      clear hbel hch
      by_cases hlt : k < is.length
      · obtain ⟨u, hr, hA⟩ := HG.out k is[k] (List.getElem?_eq_getElem hlt)
        have HDR := Lib.hid (chkL_drop (cs := cs) (libs := libs) (List.getElem?_eq_getElem hlt))
        have HYI := Lib.hid (HY.out is[k] (List.getElem_mem hlt))
        generalize is[k] = ij at hr hA HDR HYI
        obtain ⟨ua, uc, rfl⟩ := hA.len
        have HR := Lib.hid (show wr.rangeAt g (k * 11) [.int .i64 ij.op, .int .i64 ij.place, .string ij.x, .string ij.y, .string ij.a.name, .int .i64 ij.a.num, .string ij.b.name, .int .i64 ij.b.num, .slice ua ij.args.length uc, .int .i64 ij.to, .bool ij.has] from rangeAt_below hr HBW.out hg)
        have hcap := HCAP.out
        have HSW := Lib.hid ((H.out.below HBW.out).alloc (.cells [.int .i64 ij.op, .int .i64 ij.place, .string ij.x, .string ij.y, .string ij.a.name, .int .i64 ij.a.num, .string ij.b.name, .int .i64 ij.b.num, .slice ua ij.args.length uc, .int .i64 ij.to, .bool ij.has].toArray 43))
        have HBN := Lib.hid (HBW.out.alloc hzw (.cells [.int .i64 ij.op, .int .i64 ij.place, .string ij.x, .string ij.y, .string ij.a.name, .int .i64 ij.a.num, .string ij.b.name, .int .i64 ij.b.num, .slice ua ij.args.length uc, .int .i64 ij.to, .bool ij.has].toArray 43))
        have HBK := Lib.hid (Blk.new wr [.int .i64 ij.op, .int .i64 ij.place, .string ij.x, .string ij.y, .string ij.a.name, .int .i64 ij.a.num, .string ij.b.name, .int .i64 ij.b.num, .slice ua ij.args.length uc, .int .i64 ij.to, .bool ij.has] 43)
        clear hr hA
        go_wp2_with (first
          | ((with_reducible refine at_ld 43 (.tmp 14) ?_); refine wpList_load_mid rfl 43 (.tmp 14) rfl g (k * 11) rfl [.int .i64 ij.op, .int .i64 ij.place, .string ij.x, .string ij.y, .string ij.a.name, .int .i64 ij.a.num, .string ij.b.name, .int .i64 ij.b.num, .slice ua ij.args.length uc, .int .i64 ij.to, .bool ij.has] _ HR.out Tryd.underlying43 rfl Tryd.sizeInstr ?_)
          | ((with_reducible refine at_st 43 (.tmp 7) ?_); refine wpList_store_new rfl 43 (.tmp 7) (.tmp 15) rfl [.int .i64 ij.op, .int .i64 ij.place, .string ij.x, .string ij.y, .string ij.a.name, .int .i64 ij.a.num, .string ij.b.name, .int .i64 ij.b.num, .slice ua ij.args.length uc, .int .i64 ij.to, .bool ij.has] (old := insCells ins0 (.slice none 0 0)) rfl rfl Tryd.sizeInstr rfl (insCells_one ij _ rfl) ?_)
          | ((with_reducible refine at_ld 43 (.tmp 7) ?_); refine wpList_load_blk rfl 43 (.tmp 7) rfl wr.heap.size [.int .i64 ij.op, .int .i64 ij.place, .string ij.x, .string ij.y, .string ij.a.name, .int .i64 ij.a.num, .string ij.b.name, .int .i64 ij.b.num, .slice ua ij.args.length uc, .int .i64 ij.to, .bool ij.has] rfl HBK.out Tryd.underlying43 rfl Tryd.sizeInstr ?_))
        refine (resolve_all HSW.out HYI.out).mono ?_
        rintro e w1 ⟨rfl, hb1⟩
        have HB1 := Lib.hid (HBN.out.trans (hb1.mono (by simp; omega)))
        have n1 : w1.cell? ⟨wr.heap.size, 1, none⟩ = some (.int .i64 ij.place) := (HBK.out.stays hb1).cell 1
        clear hb1
        have HDR2 := Lib.hid HDR.out
        generalize resL cs libs ij = r at *
        by_cases hr0 : r = 0
        · subst hr0
          go_wp2_with fail
          go_roundg (gk - 1)
          case measure => omega
          case rel => exact ⟨k + 1, by omega, by omega, by go_num, HB1.out, by rw [HCH.out, HDR.out]; rfl⟩
        · have hr1 : (r != 0) = true := by simpa using hr0
          go_wp2_with fail
          go_ret2
          exact ⟨by rw [HCH.out, HDR.out, hr1]; rfl, HB1.out⟩
      · have hE : chkL cs libs is = (0, 0) := by rw [HCH.out, List.drop_of_length_le (by omega)]; rfl
        go_wp2_with fail
        go_ret2
        rw [hE]
        exact ⟨rfl, HBW.out⟩

end Go.Proofs.YtnmpfpnldcgbaaaDoor
