/- Proved here: for every proof, fact and list of facts, of bulk at most 1048576 together, that lychgatelaw05.CertSound is called with, in every memory, the call returns true and its arguments read as before. Condition: the bulk, as the given second form of the statement has it. -/
import Derived.Test.YtooogmppfjgdpaaCOne
import Derived.Test.YtooogmppfjgdpaaDRefE
import Derived.Deep.RegionHeld3
namespace Go.Proofs.Ytooogmppfjgdpaa
open Go.ChangeShapes Go.WideShapes Go.ChangeAt Go.RowKit

theorem refEnt_own (m : Nat) (g : F) (fs : List F) (AF : Option Addr) (capF k : Nat) (w : World) {base : Nat} {t : TypeId} (hk : k = fs.length) (hown : w.ownsRow base t 3 (.slice AF k capF) k (factCells fs)) (fit : FitS m fs) (hg : FitF m g) (hn40 : m ≤ 40) :
    Calls Try.prog 18 #[.int .i64 m, .agg #[.int .i64 g.x, .int .i64 g.y, .int .i64 g.c], .slice AF k capF] w (RefEntPost fs g w) := by
  subst hk
  exact refEnt_any m g AF capF fs w (FactsAt.of_own hown) fit hg hn40

theorem bool_eq {a b : Bool} {p : Prop} (ha : a = true ↔ p) (hb : b = true ↔ p) : b = a := by
  cases a
  · cases b
    · rfl
    · exact absurd (ha.2 (hb.1 rfl)) (by simp)
  · exact hb.2 (ha.1 rfl)

set_option maxHeartbeats 8000000 in
theorem certSound_walk (p : Pf) (AC : Option Addr) (cC : Nat) (AN : Option Addr) (cN : Nat) (g : F) (A : Option Addr) (cap : Nat) (fs : List F) (w : World) (hp : PfAt w AC AN p) (hfs : FactsAt w w.heap.size A fs) (hcap : fs.length ≤ cap) (hcm : cap ≤ maxLen) (hby : cap * 24 ≤ 140737488351232) :
    Calls Try.prog 6 #[.agg #[.bool p.yes, .slice AC p.cyc.length cC, .slice AN p.nums.length cN], .agg #[.int .i64 g.x, .int .i64 g.y, .int .i64 g.c], .slice A fs.length cap] w fun e w' => e = .returned (.bool true) ∧ Below w.heap.size w w' := by
  have HF := Lib.hid hfs
  have HP := Lib.hid hp
  clear hfs hp
  obtain ⟨m, hm, hm3⟩ : ∃ m : Nat, (if (3 : Int) < (p.nums.length : Int) then (p.nums.length : Int) else 3) = (m : Int) ∧ 3 ≤ m := by
    by_cases h : (3 : Int) < (p.nums.length : Int)
    · exact ⟨p.nums.length, by rw [if_pos h], by omega⟩
    · exact ⟨3, by rw [if_neg h]; rfl, by omega⟩
  have HB0 := Lib.hid (((Below.refl w.heap.size w).alloc (Nat.le_refl _) (.cells #[.bool p.yes, .slice AC p.cyc.length cC, .slice AN p.nums.length cN] 37)).alloc (by simp) (.cells #[.int .i64 g.x, .int .i64 g.y, .int .i64 g.c] 35))
  have b0 : Blk ((w.alloc (.cells [.bool p.yes, .slice AC p.cyc.length cC, .slice AN p.nums.length cN].toArray 37)).alloc (.cells #[.int .i64 g.x, .int .i64 g.y, .int .i64 g.c] 35)) w.heap.size [.bool p.yes, .slice AC p.cyc.length cC, .slice AN p.nums.length cN] 37 := (Blk.new w _ _).alloc _
  have b1 := Blk.new (w.alloc (.cells #[.bool p.yes, .slice AC p.cyc.length cC, .slice AN p.nums.length cN] 37)) [.int .i64 g.x, .int .i64 g.y, .int .i64 g.c] 35
  simp only [World.size_alloc] at b1
  have HK0 := Lib.hid b0
  have HK1 := Lib.hid b1
  clear b0 b1
  go_enter Try.func6, Try.ntmps6
  go_wp2_with fail
  refine (wakes_any _).mono ?_
  rintro e w1 ⟨rfl, hb1⟩
  have HB1 := Lib.hid (HB0.out.trans (hb1.mono HB0.out.size))
  have HK0' := Lib.hid (HK0.out.below hb1 (by simp; omega))
  have HK1' := Lib.hid (HK1.out.below hb1 (by simp))
  have p0 := HK0'.out.cell 0
  have p1 := HK0'.out.cell 1
  have p2 := HK0'.out.cell 2
  have g0 := HK1'.out.cell 0
  have g1 := HK1'.out.cell 1
  have g2 := HK1'.out.cell 2
  simp only [List.getElem?_cons_zero, List.getElem?_cons_succ] at p0 p1 p2 g0 g1 g2
  clear hb1
  by_cases h40 : 40 < m
  · have h40' : (40 : Int) < (m : Int) := by omega
    go_wp2_with fail
    refine (wakes_any _).mono ?_
    rintro e w2 ⟨rfl, hb2⟩
    have HB2 := Lib.hid (HB1.out.trans (hb2.mono HB1.out.size))
    clear hb2
    go_wp2
    go_ret
    exact ⟨rfl, HB2.out⟩
  · have h40' : ¬ (40 : Int) < (m : Int) := by omega
    have h40d : decide ((40 : Int) < (m : Int)) = false := decide_eq_false h40'
    go_wp2_with fail
    refine (check_any p AC cC AN cN m g A cap fs _ (HP.out.below HB1.out) ((HF.out.below HB1.out (Nat.le_refl _)).more HB1.out.size) (Nat.le_trans hcap hcm)).mono ?_
    rintro e w2 ⟨r, rfl, hr, hb2⟩
    have HB2 := Lib.hid (HB1.out.trans (hb2.mono HB1.out.size))
    have HK2 := Lib.hid (HK0'.out.below hb2 HK0'.out.lt)
    have HG2 := Lib.hid (HK1'.out.below hb2 HK1'.out.lt)
    have HR := Lib.hid hr
    clear hb2 hr p0 p1 p2 g0 g1 g2
    have p0 := HK2.out.cell 0
    have g0 := HG2.out.cell 0
    have g1 := HG2.out.cell 1
    have g2 := HG2.out.cell 2
    simp only [List.getElem?_cons_zero, List.getElem?_cons_succ] at p0 g0 g1 g2
    cases r
    · go_wp2_with fail
      refine (wakes_any _).mono ?_
      rintro e w3 ⟨rfl, hb3⟩
      have HB3 := Lib.hid (HB2.out.trans (hb3.mono HB2.out.size))
      clear hb3
      go_wp2
      go_ret
      exact ⟨rfl, HB3.out⟩
    · have hck := HR.out.1 rfl
      obtain ⟨m', hm', hgf, _, _, hfs3⟩ := entB_ok ((fitB_iff _ g fs).1 hck.1)
      obtain rfl : m' = m := by omega
      have HFIT : Hid (FitS m' fs) := Lib.hid ⟨hfs3.n1, hfs3.n2, by have := hfs3.len; simp at this; omega, fun f hf => hfs3.fit f (by simp [hf])⟩
      have HGF := Lib.hid hgf
      have HYES : Hid (p.yes = true ↔ Ent fs g) := Lib.hid ⟨fun h => check_yes hck h, fun h => by
        cases hy : p.yes
        · exact absurd h (check_no hck hy)
        · rfl⟩
      have hw2 : w.heap.size + 1 < w2.heap.size := HG2.out.lt
      have hw2' : w.heap.size < w2.heap.size := HK2.out.lt
      have tb : (p.yes == p.yes) = true := by simp
      clear hck hm' hgf hfs3
      go_wp2_with fail
      go_region_held3 (fun w' => w'.cell? ⟨w.heap.size, 0, none⟩ = some (.bool p.yes) ∧ w'.cell? ⟨w.heap.size + 1, 0, none⟩ = some (.int .i64 g.x) ∧ w'.cell? ⟨w.heap.size + 1, 1, none⟩ = some (.int .i64 g.y) ∧ w'.cell? ⟨w.heap.size + 1, 2, none⟩ = some (.int .i64 g.c))
        (first | go_keep | exact ⟨(HBX.out.cell (p := ⟨w.heap.size, 0, none⟩) hw2').trans p0, (HBX.out.cell (p := ⟨w.heap.size + 1, 0, none⟩) hw2).trans g0, (HBX.out.cell (p := ⟨w.heap.size + 1, 1, none⟩) hw2).trans g1, (HBX.out.cell (p := ⟨w.heap.size + 1, 2, none⟩) hw2).trans g2⟩ | exact ⟨(HBY.out.cell (p := ⟨w.heap.size, 0, none⟩) hw2').trans p0, (HBY.out.cell (p := ⟨w.heap.size + 1, 0, none⟩) hw2).trans g0, (HBY.out.cell (p := ⟨w.heap.size + 1, 1, none⟩) hw2).trans g1, (HBY.out.cell (p := ⟨w.heap.size + 1, 2, none⟩) hw2).trans g2⟩)
        (first
        | (go_simp; go_at_call 12; refine (refs_any A cap fs w2.drew ((HF.out.below HB2.out (Nat.le_refl _)).more HB2.out.size) (Nat.le_trans hcap hcm) (by omega)).mono ?_; rintro e w4 ⟨A4, c4, rfl, hown4, hb4⟩; have HOZ := Lib.hid hown4; have HBX := Lib.hid ((Below.refl w2.heap.size w2).drew.trans hb4); clear hown4 hb4)
        | (go_simp; go_at_call 18; refine (refEnt_own m' g fs A4 c4 _ _ rfl HOZ.out HFIT.out HGF.out (by omega)).mono ?_; rintro e w5 ⟨rb, rfl, hrb, hb5⟩; obtain rfl : rb = p.yes := bool_eq HYES.out hrb; have HBY := Lib.hid (HBX.out.trans (hb5.mono HBX.out.size)); clear hrb hb5))
      all_goals
        go_wp2_with fail
        go_ret
        exact ⟨by simp, HB2.out.trans (HBY.out.mono (Nat.le_of_lt hw2'))⟩

theorem certSound_reads (os : Os) {H : Type} (enc : TypeId × Value → H) : ∃ places, DataW.whole enc Try.prog ((World.holding Try.prog os ⟨#[], #[], []⟩).forCall (fun _ _ => 0) ⟨#[], #[Value.agg #[.bool false, .slice none 0 0, .slice none 0 0], Value.agg #[.int .i64 0, .int .i64 0, .int .i64 0], Value.slice none 0 0], []⟩).memory Try.f6.params.toList Rows.certSoundSpec.vars false #[Value.agg #[.bool false, .slice none 0 0, .slice none 0 0], Value.agg #[.int .i64 0, .int .i64 0, .int .i64 0], Value.slice none 0 0].toList 8 = some ([.agg [.lit (.bool false), .nil, .nil], .agg [.lit (.int .i64 0), .lit (.int .i64 0), .lit (.int .i64 0)], .nil], [], places) :=
  ⟨[], by kernel_rfl⟩

set_option maxRecDepth 100000 in
theorem certSound_lifted (os : Os) (started : os.Started) (H : Type) (enc : TypeId × Value → H) (F : Stop.Interp) :
    ReturnsInHanded {} Try.checked os 6 .any ((Rows.OpenSpec.upto Rows.certSoundSpec).preRow enc Try.prog Try.f6 Rows.certSoundUptoRow.domain false Rows.certSoundUptoRow.laid) (((Rows.OpenSpec.upto Rows.certSoundSpec).at F).post enc Try.prog Try.f6 false true false false) := by
  obtain ⟨places, hx⟩ := certSound_reads os enc
  refine returnsInHanded_of_row (C := Try.checked) (s := Rows.OpenSpec.upto Rows.certSoundSpec) own started (by kernel_rfl) Try.func6
    (witness_row_at (enc := enc) (C := Try.checked) false (World.holding Try.prog os ⟨#[], #[], []⟩) #[Value.agg #[.bool false, .slice none 0 0, .slice none 0 0], Value.agg #[.int .i64 0, .int .i64 0, .int .i64 0], Value.slice none 0 0] rfl (by kernel_rfl) (by kernel_rfl) (by kernel_rfl)
      (OpenSpec.preRow_of_cond 8 hx (by kernel_rfl) (fun k hk => by cases hk; kernel_rfl) (by kernel_rfl) (laidMet_of_run' 8 (by kernel_rfl) (by kernel_rfl)))) ?_
  intro W base args ds gs before hval hW _ hcond hreach _ _ _
  exact proof_contract Try.params6 (by kernel_rfl) rfl (fun _ _ _ => rfl) certSound_walk W base args ds gs before hval hW hreach (hcond _ rfl)

theorem certSound_said : Rows.CertSoundUptoSaid :=
  OpenClaim.holds_of_cond 6 Try.f6 rfl rfl rfl rfl rfl rfl rfl ⟨rfl, rfl, rfl, rfl, rfl⟩ rfl rfl rfl rfl rfl (by kernel_rfl) Try.func6 (by kernel_rfl)
    (of_decide_eq_true (by kernel_rfl)) (by unfold Func.isWrapper; first | (rw [if_pos (by decide +kernel)]; kernel_rfl) | (rw [if_neg (by decide +kernel)]; exact ⟨rfl, rfl⟩))
    (fun os started H enc _ F => by rw [OpenClaim.pre_eq_preRow]; exact certSound_lifted os started H enc F)

end Go.Proofs.Ytooogmppfjgdpaa
