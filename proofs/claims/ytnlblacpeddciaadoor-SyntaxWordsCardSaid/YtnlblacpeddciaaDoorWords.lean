/- The contract of lychgatelaw02.words on a good tree in memory: its size, and true. -/
import Derived.Test.YtnlblacpeddciaaDoorWakes2
import Derived.Test.YtnlblacpeddciaaDoorToks
import Derived.Deep.DeepCutAuto
namespace Go.Proofs.YtnlblacpeddciaaDoor
open Go.RowKit

theorem name_len {s : ByteArray} (h : isNameB s = true) : s.size ≤ maxLen := by
  unfold isNameB at h
  simp only [Bool.and_eq_true, decide_eq_true_eq] at h
  unfold maxLen
  omega
theorem kinds29 {k : Int} (h0 : 0 ≤ k) (h1 : k ≤ 28) : k = 0 ∨ k = 1 ∨ k = 2 ∨ k = 3 ∨ k = 4 ∨ k = 5 ∨ k = 6 ∨ k = 7 ∨ k = 8 ∨ k = 9 ∨ k = 10 ∨ k = 11 ∨ k = 12 ∨ k = 13 ∨ k = 14 ∨ k = 15 ∨ k = 16 ∨ k = 17 ∨ k = 18 ∨ k = 19 ∨ k = 20 ∨ k = 21 ∨ k = 22 ∨ k = 23 ∨ k = 24 ∨ k = 25 ∨ k = 26 ∨ k = 27 ∨ k = 28 := by omega

theorem goods_mem : ∀ {ks : List T} {k : Nat} {t : T}, goods ks = true → ks[k]? = some t → t.good = true
  | [], k, t, _, h => by simp at h
  | a :: ks, 0, t, hg, h => by rw [goods_cons, Bool.and_eq_true] at hg; simp at h; subst h; exact hg.1
  | a :: ks, k + 1, t, hg, h => by rw [goods_cons, Bool.and_eq_true] at hg; exact goods_mem hg.2 (by simpa using h)

def WordsRel (w : World) (ks : List T) (g : Nat) (o s i : Value) (wr : World) : Prop :=
  ∃ k : Nat, k ≤ ks.length ∧ ks.length ≤ k + g ∧ i = .int .i64 k ∧ o = .bool true ∧ s = .int .i64 ((1 + sizes (ks.take k) : Nat) : Int) ∧ Below w.heap.size w wr

set_option maxRecDepth 100000 in
set_option maxHeartbeats 4000000 in
theorem words_any : ∀ (n : Nat) (t : T), t.size ≤ n → ∀ {w : World} {S : Nat → Prop} {kv : Value}, Tabs w → KAt 25 w t.kids S kv → t.size ≤ 1000000 → t.good = true →
    Calls Tryd.prog 20 #[NodeV t kv] w fun e w' => e = .returned (.tuple #[.int .i64 t.size, .bool true]) ∧ Below w.heap.size w w' := by
  intro n
  induction n with
  | zero => intro t ht; cases t; rw [size_mk] at ht; omega
  | succ n ih =>
    intro t ht w S kv htab hk hbig hgood
    have hts : t.size = 1 + sizes t.kids := by cases t; rw [size_mk]; rfl
    have hgk : goods t.kids = true := by cases t; rw [good_mk, Bool.and_eq_true] at hgood; exact hgood.2
    have hnode : nodeB t.kind t.text t.num = true := by cases t; rw [good_mk, Bool.and_eq_true] at hgood; exact hgood.1
    unfold nodeB numB at hnode
    simp only [Bool.and_eq_true, decide_eq_true_eq] at hnode
    obtain ⟨⟨hk0, hk28⟩, ⟨hn1, hn2⟩, htext⟩ := hnode
    have HTX := Lib.hid htext
    have HTS := Lib.hid hts
    have HT := Lib.hid ht
    have HBIG := Lib.hid hbig
    have HIH := Lib.hid (@ih)
    have HGK := Lib.hid hgk
    have HK := Lib.hid hk
    have HTAB := Lib.hid htab
    clear ih ht hbig hts hgk hk htab htext hgood
    unfold NodeV
    generalize hkk : t.kind = kk at *
    generalize hnn : t.num = nn at *
    generalize htt : t.text = tt at *
    go_enter Tryd.func20, Tryd.ntmps20
    go_upto_region 2 with fail
    go_cut [4, 29] (fun v k wx => v = .bool true ∧ k = .int .i64 kk ∧ wx = w.alloc (.cells #[.int .i64 kk, .string tt, .int .i64 nn, .int .i64 t.place, kv] 25))
    case first =>
      go_wp2_with fail
      all_goals go_meet
      exact ⟨rfl, rfl, rfl⟩
    case rest =>
    obtain ⟨rfl, rfl, rfl⟩ := hcut
    first | go_step | go_upon | go_values | go_skip
    go_cut [4] (fun v wx => v = .bool true ∧ wx = w.alloc (.cells #[.int .i64 kk, .string tt, .int .i64 nn, .int .i64 t.place, kv] 25))
    case first =>
      rcases kinds29 hk0 hk28 with rfl | rfl | rfl | rfl | rfl | rfl | rfl | rfl | rfl | rfl | rfl | rfl | rfl | rfl | rfl | rfl | rfl | rfl | rfl | rfl | rfl | rfl | rfl | rfl | rfl | rfl | rfl | rfl | rfl
      · go_wp2_with fail
        all_goals go_meet
        exact ⟨rfl, rfl⟩
      · have hs : isNameB tt = true := HTX.out
        go_wp2_with fail
        refine (isName_any tt _ (name_len hs) HTAB.out.alloc).mono ?_
        rintro e w' ⟨rfl, rfl⟩
        rw [hs]
        go_wp2_with fail
        all_goals go_meet
        exact ⟨rfl, rfl⟩
      · go_wp2_with fail
        all_goals go_meet
        exact ⟨rfl, rfl⟩
      · have hs : isNameB tt = true := HTX.out
        go_wp2_with fail
        refine (isName_any tt _ (name_len hs) HTAB.out.alloc).mono ?_
        rintro e w' ⟨rfl, rfl⟩
        rw [hs]
        go_wp2_with fail
        all_goals go_meet
        exact ⟨rfl, rfl⟩
      · have hs : (tt.toList == [60] || (tt.toList == [60, 61] || tt.toList == [61, 61])) = true := HTX.out
        cases h1 : (tt.toList == [60]) with
        | true =>
          go_wp2_with fail
          all_goals go_meet
          exact ⟨rfl, rfl⟩
        | false =>
          rw [h1, Bool.false_or] at hs
          cases h2 : (tt.toList == [60, 61]) with
          | true =>
            go_wp2_with fail
            all_goals go_meet
            exact ⟨rfl, rfl⟩
          | false =>
            rw [h2, Bool.false_or] at hs
            go_wp2_with fail
            all_goals go_meet
            exact ⟨rfl, rfl⟩
      · have hs : (tt.toList == [] || isNameB tt) = true := HTX.out
        cases he : (tt.toList == []) with
        | true =>
          go_wp2_with fail
          all_goals go_meet
          exact ⟨rfl, rfl⟩
        | false =>
          rw [he, Bool.false_or] at hs
          go_wp2_with fail
          refine (isName_any tt _ (name_len hs) HTAB.out.alloc).mono ?_
          rintro e w' ⟨rfl, rfl⟩
          rw [hs]
          go_wp2_with fail
          all_goals go_meet
          exact ⟨rfl, rfl⟩
      · have hs : isNameB tt = true := HTX.out
        go_wp2_with fail
        refine (isName_any tt _ (name_len hs) HTAB.out.alloc).mono ?_
        rintro e w' ⟨rfl, rfl⟩
        rw [hs]
        go_wp2_with fail
        all_goals go_meet
        exact ⟨rfl, rfl⟩
      · have hs : isNameB tt = true := HTX.out
        go_wp2_with fail
        refine (isName_any tt _ (name_len hs) HTAB.out.alloc).mono ?_
        rintro e w' ⟨rfl, rfl⟩
        rw [hs]
        go_wp2_with fail
        all_goals go_meet
        exact ⟨rfl, rfl⟩
      · go_wp2_with fail
        all_goals go_meet
        exact ⟨rfl, rfl⟩
      · go_wp2_with fail
        all_goals go_meet
        exact ⟨rfl, rfl⟩
      · have hs : isNameB tt = true := HTX.out
        go_wp2_with fail
        refine (isName_any tt _ (name_len hs) HTAB.out.alloc).mono ?_
        rintro e w' ⟨rfl, rfl⟩
        rw [hs]
        go_wp2_with fail
        all_goals go_meet
        exact ⟨rfl, rfl⟩
      · have hs : isNameB tt = true := HTX.out
        go_wp2_with fail
        refine (isName_any tt _ (name_len hs) HTAB.out.alloc).mono ?_
        rintro e w' ⟨rfl, rfl⟩
        rw [hs]
        go_wp2_with fail
        all_goals go_meet
        exact ⟨rfl, rfl⟩
      · have hs : isNameB tt = true := HTX.out
        go_wp2_with fail
        refine (isName_any tt _ (name_len hs) HTAB.out.alloc).mono ?_
        rintro e w' ⟨rfl, rfl⟩
        rw [hs]
        go_wp2_with fail
        all_goals go_meet
        exact ⟨rfl, rfl⟩
      · have hs : isNameB tt = true := HTX.out
        go_wp2_with fail
        refine (isName_any tt _ (name_len hs) HTAB.out.alloc).mono ?_
        rintro e w' ⟨rfl, rfl⟩
        rw [hs]
        go_wp2_with fail
        all_goals go_meet
        exact ⟨rfl, rfl⟩
      · have hs : isNameB tt = true := HTX.out
        go_wp2_with fail
        refine (isName_any tt _ (name_len hs) HTAB.out.alloc).mono ?_
        rintro e w' ⟨rfl, rfl⟩
        rw [hs]
        go_wp2_with fail
        all_goals go_meet
        exact ⟨rfl, rfl⟩
      · have hs : (tt.toList == [60] || (tt.toList == [60, 61] || tt.toList == [61, 61])) = true := HTX.out
        cases h1 : (tt.toList == [60]) with
        | true =>
          go_wp2_with fail
          all_goals go_meet
          exact ⟨rfl, rfl⟩
        | false =>
          rw [h1, Bool.false_or] at hs
          cases h2 : (tt.toList == [60, 61]) with
          | true =>
            go_wp2_with fail
            all_goals go_meet
            exact ⟨rfl, rfl⟩
          | false =>
            rw [h2, Bool.false_or] at hs
            go_wp2_with fail
            all_goals go_meet
            exact ⟨rfl, rfl⟩
      · have hs : (tt.toList == [60] || (tt.toList == [60, 61] || tt.toList == [61, 61])) = true := HTX.out
        cases h1 : (tt.toList == [60]) with
        | true =>
          go_wp2_with fail
          all_goals go_meet
          exact ⟨rfl, rfl⟩
        | false =>
          rw [h1, Bool.false_or] at hs
          cases h2 : (tt.toList == [60, 61]) with
          | true =>
            go_wp2_with fail
            all_goals go_meet
            exact ⟨rfl, rfl⟩
          | false =>
            rw [h2, Bool.false_or] at hs
            go_wp2_with fail
            all_goals go_meet
            exact ⟨rfl, rfl⟩
      · go_wp2_with fail
        all_goals go_meet
        exact ⟨rfl, rfl⟩
      · go_wp2_with fail
        all_goals go_meet
        exact ⟨rfl, rfl⟩
      · have hs : isNameB tt = true := HTX.out
        go_wp2_with fail
        refine (isName_any tt _ (name_len hs) HTAB.out.alloc).mono ?_
        rintro e w' ⟨rfl, rfl⟩
        rw [hs]
        go_wp2_with fail
        all_goals go_meet
        exact ⟨rfl, rfl⟩
      · go_wp2_with fail
        all_goals go_meet
        exact ⟨rfl, rfl⟩
      · go_wp2_with fail
        all_goals go_meet
        exact ⟨rfl, rfl⟩
      · go_wp2_with fail
        all_goals go_meet
        exact ⟨rfl, rfl⟩
      · go_wp2_with fail
        all_goals go_meet
        exact ⟨rfl, rfl⟩
      · have hs : isNameB tt = true := HTX.out
        go_wp2_with fail
        refine (isName_any tt _ (name_len hs) HTAB.out.alloc).mono ?_
        rintro e w' ⟨rfl, rfl⟩
        rw [hs]
        go_wp2_with fail
        all_goals go_meet
        exact ⟨rfl, rfl⟩
      · have hs : isNameB tt = true := HTX.out
        go_wp2_with fail
        refine (isName_any tt _ (name_len hs) HTAB.out.alloc).mono ?_
        rintro e w' ⟨rfl, rfl⟩
        rw [hs]
        go_wp2_with fail
        all_goals go_meet
        exact ⟨rfl, rfl⟩
      · have hs : isNameB tt = true := HTX.out
        go_wp2_with fail
        refine (isName_any tt _ (name_len hs) HTAB.out.alloc).mono ?_
        rintro e w' ⟨rfl, rfl⟩
        rw [hs]
        go_wp2_with fail
        all_goals go_meet
        exact ⟨rfl, rfl⟩
      · have hs : isNameB tt = true := HTX.out
        go_wp2_with fail
        refine (isName_any tt _ (name_len hs) HTAB.out.alloc).mono ?_
        rintro e w' ⟨rfl, rfl⟩
        rw [hs]
        go_wp2_with fail
        all_goals go_meet
        exact ⟨rfl, rfl⟩
      · have hs : isNameB tt = true := HTX.out
        go_wp2_with fail
        refine (isName_any tt _ (name_len hs) HTAB.out.alloc).mono ?_
        rintro e w' ⟨rfl, rfl⟩
        rw [hs]
        go_wp2_with fail
        all_goals go_meet
        exact ⟨rfl, rfl⟩
    case rest =>
      obtain ⟨rfl, rfl⟩ := hcut
      have hkl : t.kids.length ≤ sizes t.kids := by
        have : ∀ ks : List T, ks.length ≤ sizes ks := fun ks => by
          induction ks with
          | nil => simp
          | cons a ks h => rw [sizes_cons]; cases a; rw [size_mk]; simp; omega
        exact this _
      have hkl2 : t.kids.length ≤ 1000000 := by have h1 := HTS.out; have h2 := HBIG.out; omega
      rcases HK.out.form with ⟨rfl, hnil⟩ | ⟨g, cap, rfl, hg, hcap, hcm, hget⟩
      · have HN := Lib.hid hnil
        clear hkl hkl2 hnil
        go_wp2_with fail
        refine wp_loop_rounds 1 ?_
        rw [rounds_succ]
        go_wp2_with fail
        go_ret2
        refine ⟨?_, (Below.refl _ _).alloc (Nat.le_refl _) _⟩
        rw [HTS.out, HN.out, sizes_nil]
        rfl
      · have HG := Lib.hid hget
        have HCAP := Lib.hid hcap
        clear hget hkl hcap
        unfold maxLen at hcm
        go_wp2_with fail
        go_loopg [4, 5, 88] t.kids.length (fun gk o s i wr => WordsRel w t.kids gk o s i wr)
        case atStart => exact ⟨0, by omega, by omega, rfl, rfl, by rw [List.take_zero, sizes_nil]; rfl, (Below.refl _ _).alloc (Nat.le_refl _) _⟩
        case round =>
          obtain ⟨k, hk, hgk, rfl, rfl, rfl, hbel⟩ := hrel
          have HB := Lib.hid hbel
          have hzw := hbel.size
          have hsl : sizes (t.kids.take k) ≤ 1000000 := by have h1 := sizes_take_le t.kids k; have h2 := HTS.out; have h3 := HBIG.out; omega
          clear hbel
          by_cases hlt : k < t.kids.length
          · obtain ⟨u, hr, hT⟩ := HG.out k t.kids[k] (List.getElem?_eq_getElem hlt)
            have hne := List.getElem?_eq_getElem hlt
            generalize t.kids[k] = tk at hr hT hne
            have HR := Lib.hid (rangeAt_below hr ((HB.out.mono (Nat.le_refl _))) hg)
            have HTK := Lib.hid (hT.below (HB.out))
            have HNE := Lib.hid hne
            have HGT := Lib.hid (goods_mem HGK.out hne)
            have HTB := Lib.hid (HTAB.out.below HB.out HTAB.out.size)
            have hcap := HCAP.out
            have hks := sizes_mem hne
            clear hr hT hne
            go_wp2_with (first
              | ((with_reducible refine at_ld 25 (.tmp 90) ?_); refine wpList_load_mid rfl 25 (.tmp 90) rfl g (k * 5) rfl (nodeCells tk u) _ HR.out Tryd.underlying25 rfl Tryd.sizeNode ?_)
              | ((with_reducible refine at_st 25 (.tmp 7) ?_); refine wpList_store_new rfl 25 (.tmp 7) (.tmp 91) rfl (nodeCells tk u) (old := zeroNodeCells) rfl rfl Tryd.sizeNode rfl (nodeCells_one _ _ HTK.out.kat.one) ?_)
              | ((with_reducible refine at_ld 25 (.tmp 7) ?_); refine wpList_load_blk rfl 25 (.tmp 7) rfl wr.heap.size (nodeCells tk u) rfl (Blk.new wr _ _) Tryd.underlying25 rfl Tryd.sizeNode ?_))
            refine (HIH.out tk (by have h2 := HTS.out; have h3 := HT.out; omega) HTB.out.alloc (HTK.out.alloc _).kat (by have h2 := HTS.out; have h3 := HBIG.out; omega) HGT.out).mono ?_
            rintro e w2 ⟨rfl, hb2⟩
            have HB2 := Lib.hid ((HB.out.alloc hzw _).trans (hb2.mono (by simp; omega)))
            have hks2 : tk.size ≤ 1000000 := by have h2 := HTS.out; have h3 := HBIG.out; omega
            clear hb2
            go_wp2
            go_roundg (gk - 1)
            case measure => omega
            case rel =>
              refine ⟨k + 1, by omega, by omega, by go_num, rfl, ?_, HB2.out⟩
              rw [sizes_take _ _ _ HNE.out]
              go_num
          · have HE := Lib.hid (show t.kids.take k = t.kids from List.take_of_length_le (by omega))
            go_wp2
            go_ret2
            exact ⟨by rw [HTS.out, HE.out]; rfl, HB.out⟩

end Go.Proofs.YtnlblacpeddciaaDoor
