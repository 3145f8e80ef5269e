/- The contract of lychgateref01.Tokens, in any world: it returns what the plain account says, in new memory, and changes nothing that was there. The contract of lychgateref02.Size on a tree in memory: how many nodes it has; nothing that was there is changed. -/
import Derived.Test.YtnmpfpnldcgbaaaDoorRefOne
import Derived.Test.YtnmpfpnldcgbaaaDoorTabs
import Derived.Test.YtnmpfpnldcgbaaaDoorRefTree
namespace Go.Proofs.YtnmpfpnldcgbaaaDoor
section
open Go.RowKit

def RefPost (r : LexRes) (w : World) (e : Ending) (w' : World) : Prop :=
  match r with
  | .error (p, c) => e = .returned (.tuple #[.slice none 0 0, .int .i64 p, .int .i64 c]) ∧ Below w.heap.size w w'
  | .ok ts => ∃ v, e = .returned (.tuple #[v, .int .i64 0, .int .i64 0]) ∧ w'.ownsRow w.heap.size 85 4 v ts.length (cellsOf ts) ∧ Below w.heap.size w w'

def RefRel (s : ByteArray) (w : World) (g : Nat) (v a : Value) (wr : World) : Prop :=
  ∃ (k : Nat) (ts : List Tok), k ≤ s.size ∧ s.size ≤ k + g ∧ a = .int .i64 k ∧ wr.ownsRow w.heap.size 85 4 v ts.length (cellsOf ts) ∧ Below w.heap.size w wr ∧ ts.length ≤ k ∧ lexFrom s 0 = more ts (lexFrom s k)

theorem Tryd.infoRef : (Tryd.prog.info? 85).map (fun i => (i.zero, i.size, i.bytes)) = some (some (.agg #[.int .i64 0, .string ⟨#[]⟩, .int .i64 0, .int .i64 0]), 4, 40) := by kernel_rfl

set_option maxHeartbeats 1000000 in
theorem refTokens_any (s : ByteArray) (w : World) (hs : s.size ≤ maxLen) :
    Calls Tryd.prog 33 #[.string s] w fun e w' => RefPost (lexAll s) w e w' := by
  by_cases hbig : 16384 < s.size
  · have hbig' : 16384 < (s.size : Int) := by omega
    have hr : lexAll s = .error (0, 10) := by unfold lexAll; rw [if_pos hbig]
    rw [hr]
    clear hr
    go_enter Tryd.func33, Tryd.ntmps33
    go_wp2
    go_ret3
    exact ⟨rfl, Below.refl _ _⟩
  have hr : lexAll s = lexFrom s 0 := by unfold lexAll; rw [if_neg hbig]
  rw [hr]
  clear hr
  have hbig' : ¬ 16384 < (s.size : Int) := by omega
  go_enter Tryd.func33, Tryd.ntmps33
  go_wp2
  go_loopg [5, 6] s.size (fun g v a wr => RefRel s w g v a wr)
  case atStart => exact ⟨0, [], by omega, by omega, rfl, World.ownsRow_nil _ _ _ _, Below.refl _ _, by simp, (more_nil _).symm⟩
  case round =>
    obtain ⟨k, ts, hk, hg, rfl, hown, hbel, hlen, hres⟩ := hrel
    have HR := Lib.hid hres
    have HOWN := Lib.hid hown
    have HBEL := Lib.hid hbel
    clear hres hown hbel
    by_cases hlt : k < s.size
    · cases h32 : ((s[k].toNat : Int) == 32)
      · cases h10 : ((s[k].toNat : Int) == 10)
        · cases h35 : ((s[k].toNat : Int) == 35)
          · have hnb : isBlank (bat s k) = false := by rw [bat_eq s k hlt]; exact blank_no h32 h10
            have hnr : ¬ bat s k = 35 := by rw [bat_eq s k hlt]; exact byte_ne h35
            cases hta : tokAt s k with
            | error e0 =>
              have HE := Lib.hid (lex_err hlt hnb hnr hta)
              have hte := tokAt_err hta
              have HA := Lib.hid hta
              clear hta hnb hnr
              have hne : (e0 != 0) = true := by rw [bne_iff_ne]; omega
              go_wp2_with fail
              refine (one_any s k _ hs hlt).mono ?_
              rintro e w1 ⟨rfl, hb⟩
              rw [HA.out]
              unfold resR errR tokV
              have HB := Lib.hid (HBEL.out.trans (hb.mono HBEL.out.size))
              obtain ⟨hc, hf⟩ := bcell hb
              clear hb
              go_wp2
              go_ret3
              rw [HR.out, HE.out]
              refine ⟨rfl, ?_⟩
              have hz : w.heap.size ≤ w1.heap.size := HB.out.size
              exact HB.out.alloc hz _
            | ok t =>
              have hsz := tokAt_size hlt hta
              have HE := Lib.hid (lex_tok hlt hnb hnr hta)
              have HA := Lib.hid hta
              clear hta hnb hnr
              go_wp2_with fail
              refine (one_any s k _ hs hlt).mono ?_
              rintro e w1 ⟨rfl, hb⟩
              rw [HA.out]
              unfold resR okR tokV
              have HB := Lib.hid (HBEL.out.trans (hb.mono HBEL.out.size))
              have HO := Lib.hid (own_below HOWN.out hb)
              obtain ⟨hc, hf⟩ := bcell hb
              have hz : w.heap.size ≤ w1.heap.size := HB.out.size
              clear hb
              obtain ⟨i0, hi, hz0, hz1, hz2⟩ := info_parts Tryd.infoRef
              go_wp2_with (at_builtin; refine wpList_append_own _ rfl (.tmp 54) (.tmp 56) 78 rfl w.heap.size 85 i0 _ 4 40 Tryd.underlying78 hi hz0 hz1 hz2 rfl (by decide) _ _ _ rfl ((HO.out.alloc _).alloc _) ⟨w1.heap.size + 1, 0, none⟩ 1 1 (tokCells t) rfl rfl ?c1 (tokCells_one t) ?c3 ?c4 ?c5 ?_)
              case c1 => exact tokCells_at t _ _ _ (by simp)
              case c3 => unfold maxLen; omega
              case c4 => omega
              case c5 => simp; omega
              intro v' w2 hown2 hgrow2 _
              have HO2 := Lib.hid hown2
              have HG2 := Lib.hid (((HB.out.alloc hz _).alloc (by simp; omega) _).grown hgrow2 (by simp; omega) (fun j hj => (HO.out.lt j hj).1))
              have htc : w2.cell? ⟨w1.heap.size, 1, none⟩ = some (.string t.text) :=
                hgrow2.cell ((World.cell?_alloc_past _ _ _ (by simp)).trans (cell_of_row _ _ _ _ _ _ (heap_alloc_new w1 _))) (fun h => absurd ((HO.out.lt _ h.symm).2) (Nat.lt_irrefl _))
              clear hown2 hgrow2
              have hsz1 := hsz.1
              have hsz2 := hsz.2
              have hbs : s.size ≤ 16384 := by omega
              clear hsz
              go_wp2
              go_roundg (gk - 1)
              case measure => omega
              case rel => exact ⟨k + t.text.size, ts ++ [t], by omega, by omega, by go_num, by rw [cellsOf_snoc]; simpa using HO2.out, HG2.out, by simp; omega, HR.out.trans (by rw [HE.out, more_more])⟩
          · have hnr : bat s k = 35 := by rw [bat_eq s k hlt]; exact byte_eq h35
            have HE := Lib.hid (lex_remark hlt hnr)
            have hge := remark_gt hlt hnr
            have hle := endOf_le isRI s k (by omega)
            clear hnr
            go_wp2_with fail
            go_loop [6] (fun i => ∃ j : Nat, k ≤ j ∧ j ≤ s.size ∧ i = .int .i64 j ∧ endOf isRI s j = endOf isRI s k) (fun i => s.size - (intOf i).toNat)
            case atStart => exact ⟨k, by omega, by omega, rfl, rfl⟩
            case round =>
              obtain ⟨j, hkj, hj, rfl, hrr⟩ := hrel
              have HRR := Lib.hid hrr
              clear hrr
              by_cases hjl : j < s.size
              · have hjl' : (j : Int) < (s.size : Int) := by omega
                cases hp : ((s[j].toNat : Int) != 10)
                · have HJ := Lib.hid ((endOf_stop (p := isRI) hjl hp).symm.trans HRR.out)
                  have hjg : k + 1 ≤ j := by have := HJ.out; omega
                  go_wp2_with fail
                  go_roundg (gk - 1)
                  case measure => omega
                  case rel => exact ⟨j, ts, by omega, by omega, rfl, HOWN.out, HBEL.out, by omega, HR.out.trans (by rw [HE.out, ← HJ.out])⟩
                · have HJ := Lib.hid ((endOf_step (p := isRI) hjl hp).symm.trans HRR.out)
                  go_wp2_with fail
                  go_round
                  case rel => exact ⟨j + 1, by omega, by omega, by go_num, HJ.out⟩
                  case measure => simp [intOf]; omega
              · have hjl' : ¬ (j : Int) < (s.size : Int) := by omega
                have HJ := Lib.hid ((endOf_all (p := isRI) (s := s) (k := j) (by omega)).symm.trans HRR.out)
                have hjg : k + 1 ≤ j := by omega
                go_wp2_with fail
                go_roundg (gk - 1)
                case measure => omega
                case rel => exact ⟨j, ts, by omega, by omega, rfl, HOWN.out, HBEL.out, by omega, HR.out.trans (by rw [HE.out, ← HJ.out])⟩
        · have HE := Lib.hid (lex_blank hlt (by rw [bat_eq s k hlt]; exact blank_10 h10))
          go_wp2_with fail
          go_roundg (gk - 1)
          case measure => omega
          case rel => exact ⟨k + 1, ts, by omega, by omega, by go_num, HOWN.out, HBEL.out, by omega, HR.out.trans (by rw [HE.out])⟩
      · have HE := Lib.hid (lex_blank hlt (by rw [bat_eq s k hlt]; exact blank_32 h32))
        go_wp2_with fail
        go_roundg (gk - 1)
        case measure => omega
        case rel => exact ⟨k + 1, ts, by omega, by omega, by go_num, HOWN.out, HBEL.out, by omega, HR.out.trans (by rw [HE.out])⟩
    · have HE := Lib.hid (lex_end (s := s) (k := k) (by omega))
      have hz : w.heap.size ≤ wr.heap.size := HBEL.out.size
      have hbs : s.size ≤ 16384 := by omega
      obtain ⟨i0, hi, hz0, hz1, hz2⟩ := info_parts Tryd.infoRef
      go_wp2_with (at_builtin; refine wpList_append_own _ rfl (.tmp 63) (.tmp 67) 78 rfl w.heap.size 85 i0 _ 4 40 Tryd.underlying78 hi hz0 hz1 hz2 rfl (by decide) _ _ _ rfl (HOWN.out.alloc _) ⟨wr.heap.size, 0, none⟩ 1 1 (tokCells (endTok s)) rfl rfl ?d1 (tokCells_one (endTok s)) ?d3 ?d4 ?d5 ?_)
      case d1 => exact tokCells_at (endTok s) _ _ _ rfl
      case d3 => unfold maxLen; omega
      case d4 => omega
      case d5 => simp; omega
      intro v' w2 hown2 hgrow2 _
      have HO2 := Lib.hid hown2
      have HG2 := Lib.hid ((HBEL.out.alloc hz _).grown hgrow2 (by simp; omega) (fun j hj => (HOWN.out.lt j hj).1))
      clear hown2 hgrow2
      go_wp2
      go_ret3
      rw [HR.out, HE.out]
      exact ⟨v', rfl, by rw [cellsOf_snoc]; simpa using HO2.out, HG2.out⟩
end

section
open Go.RowKit

def RSRel (w : World) (t : T) (kv : Value) (g : Nat) (s i : Value) (wr : World) : Prop :=
  ∃ k : Nat, k ≤ t.kids.length ∧ t.kids.length ≤ k + g ∧ i = .int .i64 k ∧ s = .int .i64 ((1 + sizes (t.kids.take k) : Nat) : Int) ∧ Below w.heap.size w wr ∧ Blk wr w.heap.size (nodeCells t kv) 31

set_option maxRecDepth 100000 in
set_option maxHeartbeats 2000000 in
theorem refSize_any : ∀ (n : Nat) (t : T), t.size ≤ n → ∀ {w : World} {S : Nat → Prop} {kv : Value}, KAt 31 w t.kids S kv → t.size ≤ 1000000 →
    Calls Tryd.prog 38 #[NodeV t kv] w fun e w' => e = .returned (.int .i64 t.size) ∧ Below w.heap.size w w' := by
  intro n
  induction n with
  | zero => intro t ht; cases t; rw [size_mk] at ht; omega
  | succ n ih =>
    intro t ht w S kv hk hbig
    have hts : t.size = 1 + sizes t.kids := by cases t; rw [size_mk]; rfl
    have HTS := Lib.hid hts
    have HT := Lib.hid ht
    have HBIG := Lib.hid hbig
    have HIH := Lib.hid (@ih)
    have hkl2 : t.kids.length ≤ 1000000 := by have := kids_len t; omega
    rcases hk.form with ⟨rfl, hnil⟩ | ⟨g, cap, rfl, hg, hcap, hcm, hget⟩
    · have HN := Lib.hid hnil
      clear hk ih ht hbig hts hnil hkl2
      unfold NodeV
      go_enter Tryd.func38, Tryd.ntmps38
      go_wp2_with fail
      refine wp_loop_rounds 1 ?_
      rw [rounds_succ]
      go_wp2_with fail
      go_ret
      refine ⟨?_, (Below.refl _ _).alloc (Nat.le_refl _) _⟩
      rw [HTS.out, HN.out, sizes_nil]
      rfl
    · have HG := Lib.hid hget
      have HCAP := Lib.hid hcap
      have HHG := Lib.hid hg
      have HNEW := Lib.hid (Blk.new w (nodeCells t (.slice (some ⟨g, 0, none⟩) t.kids.length cap)) 31)
      clear hk ih ht hbig hts hget hcap hg
      unfold maxLen at hcm
      unfold NodeV
      go_enter Tryd.func38, Tryd.ntmps38
      go_wp2_with fail
      go_loopg [3, 4] t.kids.length (fun gk s i wr => RSRel w t (.slice (some ⟨g, 0, none⟩) t.kids.length cap) gk s i wr)
      case atStart => exact ⟨0, by omega, by omega, rfl, by rw [List.take_zero, sizes_nil]; rfl, (Below.refl _ _).alloc (Nat.le_refl _) _, HNEW.out⟩
      case round =>
        obtain ⟨k, hk, hgk, rfl, rfl, hbel, hblk⟩ := hrel
        have HB := Lib.hid hbel
        have HBL := Lib.hid hblk
        have hzw := hblk.lt
        have hsl : sizes (t.kids.take k) ≤ 1000000 := by have h1 := sizes_take_le t.kids k; have h2 := HTS.out; have h3 := HBIG.out; omega
        have cx : wr.cell? ⟨w.heap.size, 4, none⟩ = some (.slice (some ⟨g, 0, none⟩) t.kids.length cap) := HBL.out.cell 4
        clear hbel hblk
        by_cases hlt : k < t.kids.length
        · obtain ⟨u, hr, hT⟩ := HG.out k t.kids[k] (List.getElem?_eq_getElem hlt)
          have hne := List.getElem?_eq_getElem hlt
          generalize t.kids[k] = tk at hr hT hne
          have HR := Lib.hid (rangeAt_below hr HB.out HHG.out)
          have HTK := Lib.hid (hT.below HB.out)
          have HNE := Lib.hid hne
          have hcap := HCAP.out
          have hks := sizes_mem hne
          clear hr hT hne
          go_wp2_with ((with_reducible refine at_ld 31 (.tmp 16) ?_); refine wpList_load_mid rfl 31 (.tmp 16) rfl g (k * 5) rfl (nodeCells tk u) _ HR.out Tryd.underlying31 rfl Tryd.sizeRef ?_)
          refine (HIH.out tk (by have h2 := HTS.out; have h3 := HT.out; omega) HTK.out.kat (by have h2 := HTS.out; have h3 := HBIG.out; omega)).mono ?_
          rintro e w2 ⟨rfl, hb2⟩
          have HB2 := Lib.hid (HB.out.trans (hb2.mono HB.out.size))
          have HBL2 := Lib.hid (HBL.out.below hb2)
          have hks2 : tk.size ≤ 1000000 := by have h2 := HTS.out; have h3 := HBIG.out; omega
          clear hb2 cx
          go_wp2
          go_roundg (gk - 1)
          case measure => omega
          case rel =>
            refine ⟨k + 1, by omega, by omega, by go_num, ?_, HB2.out, HBL2.out⟩
            rw [sizes_take _ _ _ HNE.out]
            go_num
        · have HE := Lib.hid (show t.kids.take k = t.kids from List.take_of_length_le (by omega))
          go_wp2
          go_ret
          exact ⟨by rw [HTS.out, HE.out]; rfl, HB.out⟩
end

end Go.Proofs.YtnmpfpnldcgbaaaDoor
