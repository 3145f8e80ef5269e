/- The contract of lychgatelaw11.wakes in a world that holds the tables of lex: it returns true, and changes nothing that was in memory. -/
import Derived.Test.YtdkdidgeaalcgaaDoorP22
import Derived.Test.YtdkdidgeaalcgaaDoorShpI
namespace Go.Proofs.YtdkdidgeaalcgaaDoor
open Go.RowKit

def s11 : ByteArray := ⟨#[116, 121, 112, 101, 32, 118, 101, 99, 32, 111, 119, 110, 32, 123, 32, 108, 101, 110, 44, 32, 99, 97, 112, 44, 32, 100, 91, 99, 97, 112, 93, 32, 125, 32, 119, 104, 101, 114, 101, 32, 48, 32, 60, 61, 32, 108, 101, 110, 44, 32, 108, 101, 110, 32, 60, 61, 32, 99, 97, 112, 59]⟩
def ty11 : Ty := ⟨bs [118, 101, 99], 0, 0, [(bs [108, 101, 110], -1), (bs [99, 97, 112], -1), (bs [100], 1)], [⟨0, 1, 0⟩, ⟨1, 2, 0⟩]⟩
theorem parse_s11 : parseB s11 = ((parseB s11).1, 0, 0) := by kernel_rfl
theorem types_s11 : typesF [] (parseB s11).1.kids = .ok [ty11] := by kernel_rfl
theorem find_yes : fndY [ty11] (bs [118, 101, 99]) = some 0 := by kernel_rfl
theorem find_no : fndY [ty11] (bs [118]) = none := by kernel_rfl
/- What Parse answers, as Types asks it. -/
theorem parse_declared (s : ByteArray) : Declared (parseB s).1 := parse_decls s

set_option maxRecDepth 100000 in
set_option maxHeartbeats 2000000 in
theorem wakes11_any (w : World) (ht : Tabs w) :
    Calls Tryd.prog 10 #[] w fun e w' => e = .returned (.bool true) ∧ Below w.heap.size w w' := by
  have HT := Lib.hid ht
  go_enter Tryd.func10, Tryd.ntmps10
  go_wp2_with fail
  refine (parse_any s11 w (by unfold maxLen; decide) ht).mono ?_
  rintro e w1 ⟨kv, rfl, hk, hb⟩
  rw [parse_s11] at hk ⊢
  simp only at hk ⊢
  obtain ⟨W1, hW1⟩ : ∃ W, w1.alloc (.cells (nodeCells (parseB s11).1 kv).toArray 39) = W := ⟨_, rfl⟩
  have hb1 : Below w1.heap.size w1 W1 := hW1 ▸ (Below.refl _ _).alloc (Nat.le_refl _) _
  have HB1 := Lib.hid (hb.trans (hb1.mono hb.size))
  have HN1 := Lib.hid (show Blk W1 w1.heap.size (nodeCells (parseB s11).1 kv) 39 from hW1 ▸ Blk.new w1 _ _)
  have HTY := Lib.hid (types_any (hk.below hb1) (parse_declared s11) (parse_good s11).2)
  have HTS := Lib.hid types_s11
  have HO := Lib.hid hk.one
  clear hk hb hb1 ht
  unfold NodeV at HTY ⊢
  generalize (parseB s11).1 = tr at *
  have hn1 := HN1.out
  go_wp2_with (first
    | ((with_reducible refine at_st 39 (.tmp 1) ?_); refine wpList_store_new rfl 39 (.tmp 1) (.tmp 9) rfl (nodeCells tr kv) (old := zeroNodeCells) rfl rfl Tryd.sizeNode rfl (nodeCells_one tr _ HO.out) ?_; rw [hW1])
    | ((with_reducible refine at_ld 39 (.tmp 1) ?_); refine wpList_load_blk rfl 39 (.tmp 1) rfl w1.heap.size (nodeCells tr kv) rfl hn1 Tryd.underlying39 rfl Tryd.sizeNode ?_))
  refine HTY.out.mono ?_
  clear hn1 hW1
  intro e w2 hp
  unfold TypesPost at hp
  rw [HTS.out] at hp
  obtain ⟨v, rfl, hv, hb2⟩ := hp
  have HB2 := Lib.hid (HB1.out.trans (hb2.mono HB1.out.size))
  rcases hv.form with ⟨_, hnil⟩ | ⟨g, cap, rfl, hg, hcap, hcm, hget⟩
  · cases hnil
  obtain ⟨pv, lv, hr, hty⟩ := hget 0 ty11 rfl
  rcases hty.1.form fld_len with ⟨_, hnil⟩ | ⟨gf, capf, rfl, hgf, hcapf, hcmf, hgetf⟩
  · cases hnil
  rcases hty.2.form fa_len with ⟨_, hnil⟩ | ⟨gc, capc, rfl, hgc, hcapc, hcmc, hgetc⟩
  · cases hnil
  have c3 : w2.cell? ⟨g, 3, none⟩ = some (.slice (some ⟨gf, 0, none⟩) 3 capf) := hr 3 _ rfl
  have c4 : w2.cell? ⟨g, 4, none⟩ = some (.slice (some ⟨gc, 0, none⟩) 2 capc) := hr 4 _ rfl
  have f2 : w2.cell? ⟨gf, 5, none⟩ = some (.int .i64 1) := hgetf 2 _ rfl 1 _ rfl
  have HTT := Lib.hid (show Tys w2 (some ⟨g, 0, none⟩) [ty11] from (hv.tys.elim fun A h => h.elim fun c h => by
    obtain ⟨e, _, h⟩ := h
    have : A = some ⟨g, 0, none⟩ := by simpa using (Value.slice.inj e).1.symm
    rw [← this]; exact h))
  have HFY := Lib.hid (tfind_any (bs [118, 101, 99]) (some ⟨g, 0, none⟩) cap [ty11] w2 HTT.out (by decide))
  rw [find_yes] at HFY
  have h3 : ty11.fields.length = 3 := rfl
  have h2 : ty11.facts.length = 2 := rfl
  unfold maxLen at hcm hcmf hcmc
  rw [show [ty11].length = 1 from rfl] at hcap HFY ⊢
  rw [h3] at hcapf
  clear hget hr hty hgetf hgetc hv hb2 HTY HTS
  unfold bs at HFY
  go_wp2_with fail
  refine HFY.out.mono ?_
  rintro e w3 ⟨rfl, hb3⟩
  have HB3 := Lib.hid (HB2.out.trans (hb3.mono HB2.out.size))
  have HFN := Lib.hid (tfind_any (bs [118]) (some ⟨g, 0, none⟩) cap [ty11] w3 (HTT.out.below hb3) (by decide))
  rw [find_no, show [ty11].length = 1 from rfl] at HFN
  unfold bs at HFN
  clear hb3
  simp only [oi]
  go_wp2_with fail
  refine HFN.out.mono ?_
  rintro e w4 ⟨rfl, hb4⟩
  have HB4 := Lib.hid (HB3.out.trans (hb4.mono HB3.out.size))
  clear hb4
  simp only [oi]
  go_wp2_with fail
  go_ret
  exact ⟨rfl, HB4.out⟩

end Go.Proofs.YtdkdidgeaalcgaaDoor
