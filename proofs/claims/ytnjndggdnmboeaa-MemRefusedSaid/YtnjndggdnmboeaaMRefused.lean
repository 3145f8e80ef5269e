/- MemRefused holds: a call that is refused changes nothing, but that a read of a cell that was never given a value is over. No conditions. -/
import Derived.Test.YtnjndggdnmboeaaMClose3
import Derived.Test.YtnjndggdnmboeaaMNear
import Derived.Test.YtnjndggdnmboeaaMBlocks2
import Derived.Test.YtnjndggdnmboeaaMWakes
import Derived.Deep.DeepCutAuto
import Derived.Deep.RegionWith
namespace Go.Proofs.Ytnjndggdnmboeaa
open Go.ChangeShapes Go.WideShapes Go.ChangeAt Go.RowKit

theorem rd_nil (N : Int) : Rd [] N := by intro b hb; simp at hb
theorem freeS_keep {s : MS} {p : MV} (h : freeW s p ≠ 0) : freeS s p = s := by unfold freeS; rw [if_neg h]
theorem beginS_keep {s : MS} {p : MV} {wr : Bool} (h : beginW s p wr ≠ 0) : beginS s p wr = s := by unfold beginS; rw [if_neg h]
theorem unlockS_keep {s : MS} {p : MV} (h : lockW s p ≠ 0) : unlockS s p = s := by unfold unlockS; rw [if_neg h]
theorem lockS_keep {s : MS} {p : MV} (h : lockR s p = false) : lockS s p = s := by unfold lockS; rw [if_neg (by rw [h]; decide)]
theorem lockR_no' {s : MS} {p : MV} (h : lockW s p ≠ 0) : lockR s p = false := by unfold lockR; simp [h]

set_option maxRecDepth 100000 in
set_option maxHeartbeats 8000000 in
theorem memRefused_walk (A : Option Addr) (cap : Nat) (l : List MO) (w : World) (hl : OpsAt w w.heap.size A l) (_ : l.length ≤ cap) (_ : cap ≤ maxLen) :
    Calls Try.prog 5 #[.slice A l.length cap] w fun e w' => e = .returned (.bool true) ∧ Below w.heap.size w w' := by
  obtain ⟨N, hN, hN1, hN2⟩ : ∃ N : Nat, (if (100 : Int) < (l.length : Int) then (100 : Int) else (l.length : Int)) = (N : Int) ∧ N ≤ 100 ∧ N ≤ l.length := by
    by_cases h : (100 : Int) < (l.length : Int)
    · exact ⟨100, by rw [if_pos h]; rfl, by omega, by omega⟩
    · exact ⟨l.length, by rw [if_neg h], by omega, Nat.le_refl _⟩
  have HL := Lib.hid hl
  clear hl
  go_enter Try.func5, Try.ntmps5
  go_wp2_with fail
  ((with_reducible refine ((Sep.start w).newMem rfl).mono ?_); rintro e w1 ⟨rfl, hs⟩)
  generalize hwb : w.heap.size = b at hs ⊢
  have H := Lib.hid hs
  clear hs
  go_wp2_with fail
  ((with_reducible refine (wakes_any _).mono ?_); rintro e w2 ⟨rfl, hb⟩)
  have H2 := Lib.hid (H.out.quiet hb)
  clear hb H
  go_wp2_with fail
  go_loopw [29] (fun i wr => ∃ (k : Nat) (s : MS), k ≤ N ∧ i = .int .i64 k ∧ Sep w wr [memT b s] ∧ Rd s k) (fun i _ => N - (intOf i).toNat)
  case atStart => exact ⟨0, [], by omega, rfl, H2.out, rd_nil _⟩
  case round =>
    obtain ⟨k, s, hk, rfl, hs, hrd⟩ := hrel
    by_cases hkN : k < N
    · obtain ⟨o, ho⟩ : ∃ o, l[k]? = some o := ⟨_, List.getElem?_eq_getElem (by omega)⟩
      obtain ⟨fb, fo, rfl, fl, f0, f1, f2, f3, f4, f5, f6, f7⟩ := HL.out.at hs.below ho
      have hkN2 : (k : Int) < (N : Int) := by omega
      obtain ⟨kd, ⟨pk, pn, pb⟩, ⟨vk, vn, vb⟩, wr'⟩ := o
      have hbx := hs.box [.int .i64 kd, .int .i64 pk, .int .i64 pn, .int .i64 pb, .int .i64 vk, .int .i64 vn, .int .i64 vb, .bool wr'] 36
      have HR := Lib.hid hrd
      have H3 := Lib.hid hbx
      have hk3 : (k : Int) ≤ 1000000 := by omega
      obtain ⟨OM, hOM⟩ := hbx.mem 0 rfl
      clear hs hrd ho hbx H2
      go_wp2_with fail
      ((with_reducible refine (blocks_any hOM).mono ?_); rintro e w3 ⟨g, qs, rfl, hbk, hb⟩)
      have h4 := H3.out.toldNew hb hbk rfl
      clear hb hbk H3 f0 f1 f2 f3 f4 f5 f6 f7 fl
      obtain ⟨_, _, hmi, _⟩ := hOM
      have hms := hmi.most
      have hsl := usedS_len s
      clear hmi
      generalize wr.heap.size = go at *
      have H4 := Lib.hid h4
      clear h4
      go_wp2_with fail
      ((with_reducible refine (H4.out.used 0 rfl rfl).mono ?_); rintro e w4 ⟨rfl, rfl⟩)
      obtain ⟨o0, o1, o2, o3, o4, o5, o6, o7, ol⟩ := boxO (kd := kd) (pk := pk) (pn := pn) (pb := pb) (vk := vk) (vn := vn) (vb := vb) (wr := wr') (H4.out.blk 1 rfl)
      go_upto_region 9 with fail
      go_cut [38] (fun v W => v = .int .i64 kd ∧ w3 = W)
      case first =>
        go_wp2_with fail
        all_goals go_meet
        exact ⟨rfl, rfl⟩
      case rest =>
      obtain ⟨rfl, rfl⟩ := hcut
      first | go_step | go_upon | go_values | go_skip
      go_cut [8, 9] (fun rf ov W => ∃ (rb ob : Bool) (s' : MS), rf = .bool rb ∧ ov = .bool ob ∧ Sep w W [memT b s', boxT go [.int .i64 kd, .int .i64 pk, .int .i64 pn, .int .i64 pb, .int .i64 vk, .int .i64 vn, .int .i64 vb, .bool wr'] 36, toldT g s qs] ∧ Rd s' (k + 1) ∧ RefRel s s' rb ob)
      case first =>
        as_aux_lemma =>
          by_cases h1 : kd = 1
          · subst h1
            obtain ⟨av, hav⟩ : ∃ v, allocV s pn = v := ⟨_, rfl⟩
            cases hok : allocOK s pn
            · have HRd := Lib.hid ((HR.out.alloc pn (by omega)).mono (by omega : (k : Int) ≤ k + 1))
              have HF := Lib.hid (allocS_no hok).1
              go_wp2_with fail
              ((with_reducible refine (H4.out.alloc 0 rfl pn ⟨rfl, hav, hok⟩ rfl).mono ?_); rintro e w5 ⟨rfl, hs⟩)
              have H5 := Lib.hid (hs.quiet ((Below.refl _ _).alloc (Nat.le_refl _) (.cells #[.int .i64 av.kind, .int .i64 av.n, .int .i64 av.block] 34)))
              clear hs hav hok
              go_wp2_with fail
              all_goals go_meet
              exact ⟨true, false, _, rfl, rfl, H5.out, HRd.out, (RefRel.same _ fun _ => HF.out)⟩
            · have HRd := Lib.hid ((HR.out.alloc pn (by omega)).mono (by omega : (k : Int) ≤ k + 1))
              go_wp2_with fail
              ((with_reducible refine (H4.out.alloc 0 rfl pn ⟨rfl, hav, hok⟩ rfl).mono ?_); rintro e w5 ⟨rfl, hs⟩)
              have H5 := Lib.hid (hs.quiet ((Below.refl _ _).alloc (Nat.le_refl _) (.cells #[.int .i64 av.kind, .int .i64 av.n, .int .i64 av.block] 34)))
              clear hs hav hok
              go_wp2_with fail
              all_goals go_meet
              exact ⟨false, false, _, rfl, rfl, H5.out, HRd.out, (RefRel.no _ _ _)⟩
          by_cases h2 : kd = 2
          · subst h2
            obtain ⟨c, hcc⟩ : ∃ c, Hid (freeW s ⟨pk, pn, pb⟩ = c) := ⟨_, Lib.hid rfl⟩
            by_cases hc : c = 0
            · have hd : (c != 0) = false := by simpa using hc
              have HRd := Lib.hid ((HR.out.free ⟨pk, pn, pb⟩).mono (by omega) : Rd (freeS s ⟨pk, pn, pb⟩) (k + 1))
              clear hc
              go_wp2_with fail
              ((with_reducible refine (H4.out.free 0 rfl ⟨pk, pn, pb⟩ ⟨rfl, hcc.out⟩ rfl).mono ?_); rintro e w5 ⟨rfl, hs⟩)
              have H5 := Lib.hid hs
              clear hs
              go_wp2_with fail
              all_goals go_meet
              exact ⟨false, false, _, rfl, rfl, H5.out, HRd.out, (RefRel.no _ _ _)⟩
            · have hd : (c != 0) = true := by simpa using hc
              have HRd := Lib.hid ((HR.out.free ⟨pk, pn, pb⟩).mono (by omega) : Rd (freeS s ⟨pk, pn, pb⟩) (k + 1))
              have HF := Lib.hid (freeS_keep (s := s) (by rw [hcc.out]; exact hc))
              clear hc
              go_wp2_with fail
              ((with_reducible refine (H4.out.free 0 rfl ⟨pk, pn, pb⟩ ⟨rfl, hcc.out⟩ rfl).mono ?_); rintro e w5 ⟨rfl, hs⟩)
              have H5 := Lib.hid hs
              clear hs
              go_wp2_with fail
              all_goals go_meet
              exact ⟨true, false, _, rfl, rfl, H5.out, HRd.out, (RefRel.same _ fun _ => HF.out)⟩
          by_cases h3 : kd = 3
          · subst h3
            obtain ⟨c, hcc⟩ : ∃ c, Hid (beginW s ⟨pk, pn, pb⟩ wr' = c) := ⟨_, Lib.hid rfl⟩
            by_cases hc : c = 0
            · have hd : (c != 0) = false := by simpa using hc
              have HRd := Lib.hid (HR.out.begin ⟨pk, pn, pb⟩ wr' : Rd (beginS s ⟨pk, pn, pb⟩ wr') (k + 1))
              clear hc
              go_wp2_with fail
              ((with_reducible refine (H4.out.begin 0 rfl ⟨pk, pn, pb⟩ wr' HR.out hk3 ⟨rfl, hcc.out⟩ rfl).mono ?_); rintro e w5 ⟨rfl, hs⟩)
              have H5 := Lib.hid hs
              clear hs
              go_wp2_with fail
              all_goals go_meet
              exact ⟨false, false, _, rfl, rfl, H5.out, HRd.out, (RefRel.no _ _ _)⟩
            · have hd : (c != 0) = true := by simpa using hc
              have HRd := Lib.hid (HR.out.begin ⟨pk, pn, pb⟩ wr' : Rd (beginS s ⟨pk, pn, pb⟩ wr') (k + 1))
              have HF := Lib.hid (beginS_keep (s := s) (by rw [hcc.out]; exact hc))
              clear hc
              go_wp2_with fail
              ((with_reducible refine (H4.out.begin 0 rfl ⟨pk, pn, pb⟩ wr' HR.out hk3 ⟨rfl, hcc.out⟩ rfl).mono ?_); rintro e w5 ⟨rfl, hs⟩)
              have H5 := Lib.hid hs
              clear hs
              go_wp2_with fail
              all_goals go_meet
              exact ⟨true, false, _, rfl, rfl, H5.out, HRd.out, (RefRel.same _ fun _ => HF.out)⟩
          by_cases h4 : kd = 4
          · subst h4
            obtain ⟨c, hcc⟩ : ∃ c, Hid (endW s ⟨pk, pn, pb⟩ wr' = c) := ⟨_, Lib.hid rfl⟩
            obtain ⟨av, hav⟩ : ∃ v, Hid (endV s ⟨pk, pn, pb⟩ wr' = v) := ⟨_, Lib.hid rfl⟩
            have HRd := Lib.hid ((HR.out.end ⟨pk, pn, pb⟩ wr' ⟨vk, vn, vb⟩).mono (by omega : (k : Int) ≤ k + 1))
            by_cases hc : c = 0
            · have hd : (c != 0) = false := by simp [hc]
              have hd4 : (c == 4) = false := by subst hc; rfl
              clear hc
              go_wp2_with fail
              ((with_reducible refine (H4.out.end 0 rfl ⟨pk, pn, pb⟩ wr' ⟨vk, vn, vb⟩ HR.out hk3 ⟨rfl, hav.out, hcc.out⟩ rfl).mono ?_); rintro e w5 ⟨rfl, hs⟩)
              have H5 := Lib.hid (hs.quiet ((Below.refl _ _).alloc (Nat.le_refl _) (.cells #[.int .i64 av.kind, .int .i64 av.n, .int .i64 av.block] 34)))
              clear hs
              go_wp2_with fail
              all_goals go_meet
              exact ⟨false, false, _, rfl, rfl, H5.out, HRd.out, (RefRel.no _ _ _)⟩
            by_cases hc4 : c = 4
            · have hd : (c != 0) = true := by simp [hc]
              have hd4 : (c == 4) = true := by subst hc4; rfl
              have HF : Hid (RefRel s (endS s ⟨pk, pn, pb⟩ wr' ⟨vk, vn, vb⟩) true true) := Lib.hid (fun _ => by
                obtain ⟨e1, e2⟩ := endS_over (s := s) (p := ⟨pk, pn, pb⟩) (wr := wr') (x := ⟨vk, vn, vb⟩) (by rw [hcc.out]; exact hc4)
                rw [e2]
                exact ⟨_, _, Near.over e1, by simp⟩)
              clear hc hc4
              go_wp2_with fail
              ((with_reducible refine (H4.out.end 0 rfl ⟨pk, pn, pb⟩ wr' ⟨vk, vn, vb⟩ HR.out hk3 ⟨rfl, hav.out, hcc.out⟩ rfl).mono ?_); rintro e w5 ⟨rfl, hs⟩)
              have H5 := Lib.hid (hs.quiet ((Below.refl _ _).alloc (Nat.le_refl _) (.cells #[.int .i64 av.kind, .int .i64 av.n, .int .i64 av.block] 34)))
              clear hs
              go_wp2_with fail
              all_goals go_meet
              exact ⟨true, true, _, rfl, rfl, H5.out, HRd.out, HF.out⟩
            · have hd : (c != 0) = true := by simp [hc]
              have hd4 : (c == 4) = false := by simpa using hc4
              have HF := Lib.hid (endS_keep (s := s) (p := ⟨pk, pn, pb⟩) (wr := wr') (x := ⟨vk, vn, vb⟩) (by rw [hcc.out]; exact hc) (by rw [hcc.out]; exact hc4))
              clear hc hc4
              go_wp2_with fail
              ((with_reducible refine (H4.out.end 0 rfl ⟨pk, pn, pb⟩ wr' ⟨vk, vn, vb⟩ HR.out hk3 ⟨rfl, hav.out, hcc.out⟩ rfl).mono ?_); rintro e w5 ⟨rfl, hs⟩)
              have H5 := Lib.hid (hs.quiet ((Below.refl _ _).alloc (Nat.le_refl _) (.cells #[.int .i64 av.kind, .int .i64 av.n, .int .i64 av.block] 34)))
              clear hs
              go_wp2_with fail
              all_goals go_meet
              exact ⟨true, false, _, rfl, rfl, H5.out, HRd.out, (RefRel.same _ fun _ => HF.out)⟩
          by_cases h5 : kd = 5
          · subst h5
            obtain ⟨c, hcc⟩ : ∃ c, Hid (lockW s ⟨pk, pn, pb⟩ = c) := ⟨_, Lib.hid rfl⟩
            have HRd := Lib.hid ((HR.out.lock ⟨pk, pn, pb⟩).mono (by omega : (k : Int) ≤ k + 1))
            by_cases hc : c = 0
            · have hd : (c != 0) = false := by simpa using hc
              cases hok : lockR s ⟨pk, pn, pb⟩
              · have HOK := Lib.hid hok
                have HF := Lib.hid (lockS_keep hok)
                clear hok hc
                go_wp2_with fail
                ((with_reducible refine (H4.out.lock 0 rfl ⟨pk, pn, pb⟩ ⟨rfl, HOK.out, hcc.out⟩ rfl).mono ?_); rintro e w5 ⟨rfl, hs⟩)
                have H5 := Lib.hid hs
                clear hs
                go_wp2_with fail
                all_goals go_meet
                exact ⟨true, false, _, rfl, rfl, H5.out, HRd.out, (RefRel.same _ fun _ => HF.out)⟩
              · have HOK := Lib.hid hok
                clear hok hc
                go_wp2_with fail
                ((with_reducible refine (H4.out.lock 0 rfl ⟨pk, pn, pb⟩ ⟨rfl, HOK.out, hcc.out⟩ rfl).mono ?_); rintro e w5 ⟨rfl, hs⟩)
                have H5 := Lib.hid hs
                clear hs
                go_wp2_with fail
                all_goals go_meet
                exact ⟨false, false, _, rfl, rfl, H5.out, HRd.out, (RefRel.no _ _ _)⟩
            · have hd : (c != 0) = true := by simpa using hc
              have HOK := Lib.hid (lockR_no' (s := s) (p := ⟨pk, pn, pb⟩) (by rw [hcc.out]; exact hc))
              have HF := Lib.hid (lockS_keep HOK.out)
              clear hc
              go_wp2_with fail
              ((with_reducible refine (H4.out.lock 0 rfl ⟨pk, pn, pb⟩ ⟨rfl, HOK.out, hcc.out⟩ rfl).mono ?_); rintro e w5 ⟨rfl, hs⟩)
              have H5 := Lib.hid hs
              clear hs
              go_wp2_with fail
              all_goals go_meet
              exact ⟨true, false, _, rfl, rfl, H5.out, HRd.out, (RefRel.same _ fun _ => HF.out)⟩
          by_cases h6 : kd = 6
          · subst h6
            obtain ⟨c, hcc⟩ : ∃ c, Hid (lockW s ⟨pk, pn, pb⟩ = c) := ⟨_, Lib.hid rfl⟩
            by_cases hc : c = 0
            · have hd : (c != 0) = false := by simpa using hc
              have HRd := Lib.hid ((HR.out.unlock ⟨pk, pn, pb⟩).mono (by omega) : Rd (unlockS s ⟨pk, pn, pb⟩) (k + 1))
              clear hc
              go_wp2_with fail
              ((with_reducible refine (H4.out.unlock 0 rfl ⟨pk, pn, pb⟩ ⟨rfl, hcc.out⟩ rfl).mono ?_); rintro e w5 ⟨rfl, hs⟩)
              have H5 := Lib.hid hs
              clear hs
              go_wp2_with fail
              all_goals go_meet
              exact ⟨false, false, _, rfl, rfl, H5.out, HRd.out, (RefRel.no _ _ _)⟩
            · have hd : (c != 0) = true := by simpa using hc
              have HRd := Lib.hid ((HR.out.unlock ⟨pk, pn, pb⟩).mono (by omega) : Rd (unlockS s ⟨pk, pn, pb⟩) (k + 1))
              have HF := Lib.hid (unlockS_keep (s := s) (by rw [hcc.out]; exact hc))
              clear hc
              go_wp2_with fail
              ((with_reducible refine (H4.out.unlock 0 rfl ⟨pk, pn, pb⟩ ⟨rfl, hcc.out⟩ rfl).mono ?_); rintro e w5 ⟨rfl, hs⟩)
              have H5 := Lib.hid hs
              clear hs
              go_wp2_with fail
              all_goals go_meet
              exact ⟨true, false, _, rfl, rfl, H5.out, HRd.out, (RefRel.same _ fun _ => HF.out)⟩
          have d1 : (kd == 1) = false := by simpa using h1
          have d2 : (kd == 2) = false := by simpa using h2
          have d3 : (kd == 3) = false := by simpa using h3
          have d4 : (kd == 4) = false := by simpa using h4
          have d5 : (kd == 5) = false := by simpa using h5
          have d6 : (kd == 6) = false := by simpa using h6
          clear h1 h2 h3 h4 h5 h6
          go_wp2_with fail
          all_goals go_meet
          exact ⟨false, false, s, rfl, rfl, H4.out, HR.out.mono (by omega), RefRel.no _ _ _⟩
      case rest =>
        rename World => W5
        obtain ⟨rb, ob, s', rfl, rfl, hs, hrd, hrel⟩ := hcut
        have HS := Lib.hid (hs.pick [0, 2] (by decide) [memT b s', toldT g s qs] rfl)
        have HR2 := Lib.hid hrd
        have HREL := Lib.hid hrel
        clear hs hrd hrel H4 HR o0 o1 o2 o3 o4 o5 o6 o7 ol
        obtain ⟨OM, hOM⟩ := HS.out.mem 0 rfl
        go_wp2_with fail
        ((with_reducible refine (blocks_any hOM).mono ?_); rintro e w6 ⟨g2, qs2, rfl, hbk, hb⟩)
        have H6 := Lib.hid (HS.out.quiet hb)
        have HB2 := Lib.hid hbk
        clear hb hbk hOM HS
        cases rb
        · have HF := Lib.hid (H6.out.take 1)
          go_wp2
          go_roundw
          case rel => exact ⟨k + 1, s', by omega, by go_num, HF.out, HR2.out⟩
          case measure => simp [intOf]; omega
        · obtain ⟨R, T, hnear, hT⟩ := HREL.out rfl
          have HW := Lib.hid (H6.out.told 1 rfl)
          have HN := Lib.hid hnear
          have hlen := hnear.len
          have hfin := hnear.fin
          clear HREL hnear
          go_wp2_with fail
          ((with_reducible refine (H6.out.used 0 rfl (u := (usedS s : Int)) (by rw [HN.out.used])).mono ?_); rintro e w7 ⟨rfl, rfl⟩)
          go_wp2_with fail
          go_loopw [17, 123] (fun x i wq => ∃ j : Nat, j ≤ s.length ∧ i = .int .i64 j ∧ x = .int .i64 (R j 0) ∧ Below w6.heap.size w6 wq) (fun _ i _ => s.length - (intOf i).toNat)
          case atStart => exact ⟨0, by omega, rfl, by rw [HN.out.start], Below.refl _ _⟩
          case round =>
            rename World => wq
            obtain ⟨i, hi, rfl, rfl, hbq⟩ := hrel
            by_cases his : i < s.length
            · obtain ⟨a, ha⟩ : ∃ a, s[i]? = some a := ⟨_, List.getElem?_eq_getElem his⟩
              obtain ⟨a', ha', hlive, hcl, hcells, hnext⟩ := HN.out.blk i a ha
              have dis : (i : Int) < (s.length : Int) := by omega
              obtain ⟨q, hq, t0, t1, t2, t3, tl⟩ := (HW.out.below hbq).at ha
              obtain ⟨q2, hq2, u0, u1, u2, u3, ul⟩ := (HB2.out.below hbq).at ha'
              rw [hcl] at u1 u2 u3
              rw [hlive] at u0
              have HCL := Lib.hid hcl
              have hne : (a.live != a.live) = false := bool_ne_self _
              have HBQ := Lib.hid hbq
              have HA := Lib.hid ha
              have HA2 := Lib.hid ha'
              have HC := Lib.hid hcells
              have HNX := Lib.hid hnext
              have hbd := HN.out.bnd i 0
              have hml := usedS_block s a (List.mem_of_getElem? ha)
              clear hbq ha ha' hcells hnext hq hq2 hlive hcl
              go_wp2_with fail
              go_quiet (fail)
              go_wp2_with fail
              clear t0 t1 t2 t3 tl u0 u1 u2 u3 ul
              go_loopw [17, 143] (fun x y wz => ∃ j : Nat, j ≤ a.cells.length ∧ y = .int .i64 j ∧ x = .int .i64 (R i j) ∧ Below w6.heap.size w6 wz) (fun _ y _ => a.cells.length - (intOf y).toNat)
              case atStart => exact ⟨0, by omega, rfl, rfl, below_drewN HBQ.out _⟩
              case round =>
                rename World => wz
                obtain ⟨j, hj, rfl, rfl, hbz⟩ := hrel
                by_cases hja : j < a.cells.length
                · obtain ⟨c, hc⟩ : ∃ c, a.cells[j]? = some c := ⟨_, List.getElem?_eq_getElem hja⟩
                  obtain ⟨r', hc', hd⟩ := HC.out j c hc
                  have dja : (j : Int) < (a.cells.length : Int) := by omega
                  obtain ⟨q, hq, t0, t1, t2, t3, tl⟩ := (HW.out.below hbz).at HA.out
                  obtain ⟨q2, hq2, u0, u1, u2, u3, ul⟩ := (HB2.out.below hbz).at HA2.out
                  rw [HCL.out] at u1 u2 u3
                  obtain ⟨e1, e2, e3, e4, e5, l1, l2, l3⟩ := hq.out.at hc
                  obtain ⟨g1, g2, g3, g4, g5, m1, m2, m3⟩ := hq2.out.at hc'
                  simp only at g1 g2 g3 g4 g5
                  have hne2 : (c.w != c.w) = false := bool_ne_self _
                  have b1 := HN.out.bnd i j
                  have b2 := HN.out.bnd i (j + 1)
                  have HBZ := Lib.hid hbz
                  clear hbz hc hc' hq hq2
                  generalize hX : R i j = X at *
                  generalize hY : R i (j + 1) = Y at *
                  have HY := Lib.hid hY
                  clear hX hY
                  obtain ⟨D, hD⟩ : ∃ D, D = c.r - r' := ⟨_, rfl⟩
                  have w1 : IntKind.i64.wrap (c.r - r') = D := by rw [← hD]; exact IntWalk.i64_in _ (by omega)
                  have w2 : IntKind.i64.wrap (X + D) = Y := by rw [IntWalk.i64_in _ (by omega)]; omega
                  clear hD hd b1 b2
                  generalize c.r = cr at *
                  go_wp2_with fail
                  go_quiet (fail)
                  go_wp2_with fail
                  go_quiet (fail)
                  go_wp2
                  go_roundw
                  case rel => exact ⟨j + 1, by omega, by go_num, by rw [HY.out], below_drewN HBZ.out _⟩
                  case measure => simp [intOf]; omega
                · have dja : ¬ (j : Int) < (a.cells.length : Int) := by omega
                  obtain rfl : j = a.cells.length := by omega
                  have HBZ := Lib.hid hbz
                  clear hbz
                  go_wp2
                  go_roundw
                  case rel => exact ⟨i + 1, by omega, by go_num, by rw [HNX.out], HBZ.out⟩
                  case measure => simp [intOf]; omega
            · have dis : ¬ (i : Int) < (s.length : Int) := by omega
              obtain rfl : i = s.length := by omega
              have HF := Lib.hid ((H6.out.quiet hbq).take 1)
              clear hbq
              rw [hfin, hT]
              cases ob
              · go_wp2
                go_roundw
                case rel => exact ⟨k + 1, s', by omega, by go_num, HF.out, HR2.out⟩
                case measure => simp [intOf]; omega
              · go_wp2
                go_roundw
                case rel => exact ⟨k + 1, s', by omega, by go_num, HF.out, HR2.out⟩
                case measure => simp [intOf]; omega
    · have HB := Lib.hid hs.below
      have hkN2 : ¬ (k : Int) < (N : Int) := by omega
      clear hs hrd
      go_wp2
      go_ret
      exact ⟨rfl, by rw [← hwb]; exact HB.out⟩
theorem memRefused_reads (os : Os) {H : Type} (enc : TypeId × Value → H) : ∃ places, DataW.whole enc Try.prog ((World.holding Try.prog os ⟨#[], #[], []⟩).forCall (fun _ _ => 0) ⟨#[], #[Value.slice none 0 0], []⟩).memory Try.f5.params.toList Rows.memRefusedSpec.vars false #[Value.slice none 0 0].toList 8 = some ([.nil], [], places) :=
  ⟨[], by kernel_rfl⟩

set_option maxRecDepth 100000 in
theorem memRefused_lifted (os : Os) (started : os.Started) (H : Type) (enc : TypeId × Value → H) (F : Stop.Interp) :
    ReturnsInHanded {} Try.checked os 5 .any ((OpenSpec.ofChange Rows.memRefusedSpec).preRow enc Try.prog Try.f5 Rows.memRefusedRow.domain false Rows.memRefusedRow.laid) (((OpenSpec.ofChange Rows.memRefusedSpec).at F).post enc Try.prog Try.f5 false true false false) := by
  obtain ⟨places, hx⟩ := memRefused_reads os enc
  refine returnsInHanded_of_row (C := Try.checked) (s := OpenSpec.ofChange Rows.memRefusedSpec) own started (by kernel_rfl) Try.func5
    (witness_row_at (enc := enc) (C := Try.checked) false (World.holding Try.prog os ⟨#[], #[], []⟩) #[Value.slice none 0 0] rfl (by kernel_rfl) (by kernel_rfl) (by kernel_rfl)
      (OpenSpec.preRow_of_cond 8 hx (by kernel_rfl) (fun k hk => by cases hk) (by kernel_rfl) (laidMet_of_run' 8 (by kernel_rfl) (by kernel_rfl)))) ?_
  intro W base args ds gs before hval hW _ _ hreach _ _ _
  exact ops_contract Try.params5 (by kernel_rfl) rfl (fun _ => rfl) memRefused_walk W base args ds gs before hval hW hreach

theorem memRefused_said : Rows.MemRefusedSaid :=
  OpenClaim.holds_of_cond 5 Try.f5 rfl rfl rfl rfl rfl rfl rfl ⟨rfl, rfl, rfl, rfl, rfl⟩ rfl rfl rfl rfl rfl (by kernel_rfl) Try.func5 (by kernel_rfl)
    (of_decide_eq_true (by kernel_rfl)) (by unfold Func.isWrapper; first | (rw [if_pos (by decide +kernel)]; kernel_rfl) | (rw [if_neg (by decide +kernel)]; exact ⟨rfl, rfl⟩))
    (fun os started H enc _ F => by rw [OpenClaim.pre_eq_preRow]; exact memRefused_lifted os started H enc F)

end Go.Proofs.Ytnjndggdnmboeaa
