/- The contract of cert.Prove. -/
import Derived.Test.YtooogmppfjgdpaaCCheck
namespace Go.Proofs.Ytooogmppfjgdpaa
open Go.RowKit

theorem Greatest.band {n : Nat} {fs : List F} {v : Nat → Int} (h : Greatest n fs v) (fit : ∀ f ∈ fs, FitF n f) {i0 : Nat} (hi0 : i0 < n) (hlow : v i0 < -8796093022208 * ((n : Int) - 1)) (k : Nat) (hk : k < n) :
    ∃ y, y < n ∧ -8796093022208 * (k : Int) ≤ v y ∧ v y < -8796093022208 * (k : Int) + 8796093022208 := by
  apply Classical.byContradiction
  intro hno
  have hno' : ∀ y, y < n → -8796093022208 * (k : Int) ≤ v y → -8796093022208 * (k : Int) + 8796093022208 ≤ v y := fun y hy h1 => by
    apply Classical.byContradiction
    intro h2
    exact hno ⟨y, hy, h1, by omega⟩
  have hu := h.most (fun j => if v j < -8796093022208 * (k : Int) then v j + 1 else v j) (fun i hi => by
    have := h.pos i hi
    show (if v i < -8796093022208 * (k : Int) then v i + 1 else v i) ≤ 0
    split <;> omega) (fun f hf => by
    have hs := h.sol f hf
    have ft := fit f hf
    have := ft.x0; have := ft.xn; have := ft.y0; have := ft.yn; have := ft.c0
    have hy := hno' f.y.toNat (by omega)
    unfold Hold at hs ⊢
    show (if v f.x.toNat < -8796093022208 * (k : Int) then v f.x.toNat + 1 else v f.x.toNat) - (if v f.y.toNat < -8796093022208 * (k : Int) then v f.y.toNat + 1 else v f.y.toNat) ≤ f.c
    split <;> split <;> omega) i0 hi0
  have hu' : (if v i0 < -8796093022208 * (k : Int) then v i0 + 1 else v i0) ≤ v i0 := hu
  rw [if_pos (by omega)] at hu'
  omega

theorem Greatest.low {n : Nat} {fs : List F} {v : Nat → Int} (h : Greatest n fs v) (fit : ∀ f ∈ fs, FitF n f) (i : Nat) (hi : i < n) : -8796093022208 * ((n : Int) - 1) ≤ v i := by
  apply Classical.byContradiction
  intro hlow
  have hl : v i < -8796093022208 * ((n : Int) - 1) := by omega
  have hex := fun k hk => h.band fit hi hl k hk
  obtain ⟨f, hf⟩ : ∃ f : Nat → Nat, ∀ k, k < n → f k < n ∧ -8796093022208 * (k : Int) ≤ v (f k) ∧ v (f k) < -8796093022208 * (k : Int) + 8796093022208 :=
    ⟨fun k => if hk : k < n then Classical.choose (hex k hk) else 0, fun k hk => by simp only [hk, dif_pos]; exact Classical.choose_spec (hex k hk)⟩
  obtain ⟨a, b, hab, hb, e⟩ := pigeon n (fun k => if k < n then f k else i) (fun k _ => by
    show (if k < n then f k else i) < n
    split
    · next hk => exact (hf k hk).1
    · exact hi)
  have ha : a < n := by omega
  have e' : (if a < n then f a else i) = (if b < n then f b else i) := e
  rw [if_pos ha] at e'
  have h1 := hf a ha
  by_cases hbn : b < n
  · rw [if_pos hbn] at e'
    have h2 := hf b hbn
    rw [← e'] at h2
    omega
  · rw [if_neg hbn] at e'
    rw [e'] at h1
    omega

theorem plain_holds {n : Nat} {us : List F} {l : List Int} (fit : FitS n us) (hp : Plain n us l) : holdsB l us = true := by
  obtain ⟨hl, _, v, hv, e⟩ := hp
  have hn := fit.n2
  have hlow := fun i hi => hv.low fit.fit i hi
  have hb : ∀ i, i < n → -4503599627370496 ≤ l.getD i 0 ∧ l.getD i 0 ≤ 4503599627370496 := fun i hi => by
    have h1 := hlow i hi
    have h2 := hlow 0 (by omega)
    have h3 := hv.pos i hi
    have h4 := hv.pos 0 (by omega)
    rw [e i hi]
    omega
  have ho : us.any (holdOdd l) = false := Bool.eq_false_iff.2 fun ht => by
    obtain ⟨f, hf, ho⟩ := List.any_eq_true.1 ht
    have ft := fit.fit f hf
    have hs := hv.sol f hf
    unfold Hold at hs
    have := ft.x0; have := ft.xn; have := ft.y0; have := ft.yn; have := ft.c0; have := ft.c1
    have hbx := hb f.x.toNat (by omega)
    have hby := hb f.y.toNat (by omega)
    have ex := e f.x.toNat (by omega)
    have ey := e f.y.toNat (by omega)
    unfold holdOdd fineB inB at ho
    simp only [Bool.or_eq_true, Bool.not_eq_true', Bool.and_eq_false_iff, decide_eq_false_iff_not, decide_eq_true_eq] at ho
    omega
  unfold holdsB
  rw [ho]
  rfl

theorem circle_circP {n : Nat} {us : List F} {c : List Nat} (fit : FitS n us) (hc : IsCircle us c) : CircP (natInts c) us := by
  have hm : ∀ i, i < c.length → us.getD (c.getD i 0) zeroF ∈ us := fun i hi => by
    rw [List.getD_eq_getElem?_getD (l := us), List.getElem?_eq_getElem (hc.lt i hi)]
    exact List.getElem_mem _
  refine ⟨c, rfl, hc, hc.lt, fun i hi => ?_, fun i hi => ?_⟩
  · have := (fit.fit _ (hm i hi)).c0
    omega
  · have := (fit.fit _ (hm i hi)).c1
    omega

theorem results_cell_tmp {P : Program} {fn : Func} {s u : Tmp} {ty t : TypeId} (h : fn.results = #[.cell s ty, .tmp u]) {tmps : Array Value} {W : World} {g : Nat} {cs : List Value} {d : TypeDesc} (hs : tmps.getD s undef = .pointer (some ⟨g, 0, none⟩))
    (hb : Blk W g cs t) (hu : P.underlying ty = some d) (hd : d.isRow = true) (hi : (P.info? ty).map (·.size) = some cs.length) : (results fn tmps).run P W = .ok (.tuple #[.agg cs.toArray, tmps.getD u undef]) W := by
  have hl := run_loadVar_mid (P := P) W g 0 ty cs d (fun j v hj => by rw [Nat.zero_add, hb.cell j]; exact hj) hu hd hi
  have hs' : tmps[s]?.getD undef = .pointer (some ⟨g, 0, none⟩) := by rw [← hs]; simp
  simp [results, h, hs', asAddr, hl]
theorem Try.sizeProof : (Try.prog.info? 37).map (·.size) = some 3 := by kernel_rfl

theorem cell_far (w : World) (p q : Addr) (u : Value) (h : q.block ≠ p.block) : (w.setCell p u).cell? q = w.cell? q := by
  simp only [World.cell?, Below.heap_setCell w p u q.block h]
theorem nums_far {w : World} {g : Nat} {l : List Int} {B : Nat} (hb : g < B) (hc : ∀ i, i < l.length → w.cell? ⟨g, i, none⟩ = some (.int .i64 (l.getD i 0))) : NumsAt w B (some ⟨g, 0, none⟩) l := fun _ => ⟨g, 0, rfl, hb, fun i hi => by rw [Nat.zero_add]; exact hc i hi⟩

/- What Prove comes to: no proof with an error; else one that is checked. -/
def ProvePost (n : Int) (g : F) (fs : List F) (w : World) (e : Ending) (w' : World) : Prop :=
  ∃ (p : Pf) (AC : Option Addr) (cC : Nat) (AN : Option Addr) (cN : Nat), e = .returned (.tuple #[.agg #[.bool p.yes, .slice AC p.cyc.length cC, .slice AN p.nums.length cN], .int .i64 (entB n g fs)]) ∧ PfAt w' AC AN p ∧
    (entB n g fs ≠ 0 → p.yes = false ∧ p.cyc.length = 0 ∧ p.nums.length = 0) ∧ (entB n g fs = 0 → CheckP p n g fs ∧ (p.yes = true ↔ Ent fs g)) ∧ Below w.heap.size w w'

set_option maxHeartbeats 4000000 in
theorem prove_any (n : Int) (g : F) (AF : Option Addr) (capF : Nat) (fs : List F) (w : World) (hfs : FactsAt w w.heap.size AF fs) (hcap : fs.length ≤ capF) (hcm : capF ≤ maxLen) :
    Calls Try.prog 15 #[.int .i64 n, .agg #[.int .i64 g.x, .int .i64 g.y, .int .i64 g.c], .slice AF fs.length capF] w (ProvePost n g fs w) := by
  have HF := Lib.hid hfs
  clear hfs
  have HB0 := Lib.hid (((Below.refl w.heap.size w).alloc (Nat.le_refl _) (.cells #[.int .i64 g.x, .int .i64 g.y, .int .i64 g.c] 35)).alloc (by simp) (.cells #[.bool false, .slice none 0 0, .slice none 0 0] 37))
  have b0 : Blk ((w.alloc (.cells [.int .i64 g.x, .int .i64 g.y, .int .i64 g.c].toArray 35)).alloc (.cells #[.bool false, .slice none 0 0, .slice none 0 0] 37)) w.heap.size [.int .i64 g.x, .int .i64 g.y, .int .i64 g.c] 35 := (Blk.new w _ _).alloc _
  have b1 := Blk.new (w.alloc (.cells #[.int .i64 g.x, .int .i64 g.y, .int .i64 g.c] 35)) [.bool false, .slice none 0 0, .slice none 0 0] 37
  simp only [World.size_alloc] at b1
  go_enter Try.func15, Try.ntmps15
  go_wp2_with fail
  refine (fit_cert n g AF capF fs _ ((HF.out.below HB0.out (Nat.le_refl _)).more HB0.out.size) (Nat.le_trans hcap hcm)).mono ?_
  rintro e w1 ⟨rfl, hb1⟩
  have HB1 := Lib.hid (HB0.out.trans (hb1.mono HB0.out.size))
  have HK0 := Lib.hid (b0.below hb1 (by simp; omega))
  have HK1 := Lib.hid (b1.below hb1 (by simp))
  have g0 := HK0.out.cell 0
  have g1 := HK0.out.cell 1
  have g2 := HK0.out.cell 2
  simp only [List.getElem?_cons_zero, List.getElem?_cons_succ] at g0 g1 g2
  clear hb1 b0 b1
  cases hfit : fitB n g fs
  · have hne : entB n g fs ≠ 0 := fun h => by rw [(fitB_iff n g fs).2 h] at hfit; cases hfit
    have HNE := Lib.hid hne
    clear hne
    go_wp2_with fail
    refine (entails_any n g AF capF fs _ ((HF.out.below HB1.out (Nat.le_refl _)).more HB1.out.size) hcap hcm).mono ?_
    rintro e w2 ⟨r, rfl, hr0, _, hb2⟩
    have HB2 := Lib.hid (HB1.out.trans (hb2.mono HB1.out.size))
    have HK2 := Lib.hid (HK1.out.below hb2 HK1.out.lt)
    clear hb2 hr0 g0 g1 g2
    have p0 := HK2.out.cell 0
    have p1 := HK2.out.cell 1
    have p2 := HK2.out.cell 2
    have f0 := HK2.out.frozen 0
    have f1 := HK2.out.frozen 1
    have f2 := HK2.out.frozen 2
    simp only [List.getElem?_cons_zero, List.getElem?_cons_succ] at p0 p1 p2
    go_wp2
    refine bodyPost_ret (results_cell_tmp rfl rfl (((HK2.out.put 0 (.bool false)).put 1 (.slice none 0 0)).put 2 (.slice none 0 0)) Try.underlying37 rfl Try.sizeProof) rfl ?_
    exact ⟨⟨false, [], []⟩, none, 0, none, 0, rfl, ⟨NumsAt.nil _ _ _, NumsAt.nil _ _ _, Nat.zero_le _, Nat.zero_le _⟩, fun _ => ⟨rfl, rfl, rfl⟩, fun h => absurd h HNE.out, ((HB2.out.setCell (p := ⟨w.heap.size + 1, 0, none⟩) (by simp) _).setCell (p := ⟨w.heap.size + 1, 1, none⟩) (by simp) _).setCell (p := ⟨w.heap.size + 1, 2, none⟩) (by simp) _⟩
  · have HE0 := Lib.hid ((fitB_iff n g fs).1 hfit)
    obtain ⟨m, rfl, hg, hgc, hfs2, hfs3⟩ := entB_ok HE0.out
    have hlen : fs.length ≤ 768 := by have := hfs3.len; simp at this; omega
    obtain ⟨us, HUS⟩ : ∃ us, Hid (fs ++ [turnF g] = us) := ⟨_, Lib.hid rfl⟩
    have HW := withTurned_any g AF capF fs w1 ((HF.out.below HB1.out (Nat.le_refl _)).more HB1.out.size) (by omega) hg.c0 hg.c1
    rw [HUS.out] at HW hfs2
    have HWT := Lib.hid HW
    have HFS := Lib.hid hfs2
    have HFIT := Lib.hid hfit
    clear HW hfit hfs2 hfs3 hg
    go_wp2_with fail
    refine HWT.out.mono ?_
    rintro e w2 ⟨AU, cU, rfl, hown, hb2⟩
    have HB2 := Lib.hid (HB1.out.trans (hb2.mono HB1.out.size))
    have HO := Lib.hid hown
    have HK2 := Lib.hid (HK1.out.below hb2 HK1.out.lt)
    have hw2 : w.heap.size + 1 < w2.heap.size := HK2.out.lt
    clear hown hb2 g0 g1 g2
    go_wp2_with fail
    refine (solve_one m AU cU us w2 (FactsAt.of_own HO.out) HFS.out).mono ?_
    rintro e w3 ⟨A1, n1, c1, A2, n2, c2, rfl, hans, hb3⟩
    have HB3 := Lib.hid (HB2.out.trans (hb3.mono HB2.out.size))
    have HK3 := Lib.hid (HK2.out.below hb3 hw2)
    have hw3 : w2.heap.size ≤ w3.heap.size := hb3.size
    have HEN := hans
    rw [← HUS.out] at HEN
    have HENT := Lib.hid (ent_of HEN)
    clear HEN
    have p0 := HK3.out.cell 0
    have p1 := HK3.out.cell 1
    have p2 := HK3.out.cell 2
    have f0 := HK3.out.frozen 0
    have f1 := HK3.out.frozen 1
    have f2 := HK3.out.frozen 2
    simp only [List.getElem?_cons_zero, List.getElem?_cons_succ] at p0 p1 p2
    have HANS := Lib.hid hans
    clear hans hb3
    rcases HANS.out with ⟨l, gn, hpl, rfl, rfl, rfl, hgn, hblk⟩ | ⟨c, hcir, hcl, rfl, rfl, hown⟩
    · have HPL := Lib.hid hpl
      have HBLK := Lib.hid hblk
      have hll : l.length = n1 := hpl.1
      clear hpl hblk
      go_wp2
      refine bodyPost_ret (results_cell_tmp rfl rfl (((HK3.out.put 0 (.bool false)).put 1 (.slice A2 0 c2)).put 2 (.slice (some ⟨gn, 0, none⟩) n1 c1)) Try.underlying37 rfl Try.sizeProof) rfl ?_
      refine ⟨⟨false, [], l⟩, A2, c2, some ⟨gn, 0, none⟩, c1, by rw [HE0.out, hll]; rfl, ⟨NumsAt.nil _ _ _, ?_, Nat.zero_le _, ?_⟩, fun h => absurd HE0.out h, fun _ => ⟨⟨HFIT.out, .inr ⟨rfl, rfl, ?_, ?_⟩⟩, ?_⟩, ((HB3.out.setCell (p := ⟨w.heap.size + 1, 0, none⟩) (by simp) _).setCell (p := ⟨w.heap.size + 1, 1, none⟩) (by simp) _).setCell (p := ⟨w.heap.size + 1, 2, none⟩) (by simp) _⟩
      · refine nums_far ?_ fun i hi => ?_
        · have := HBLK.out.lt
          simpa [World.setCell] using this
        · have hne : (⟨gn, i, none⟩ : Addr).block ≠ w.heap.size + 1 := by show gn ≠ _; omega
          rw [cell_far _ _ _ _ hne, cell_far _ _ _ _ hne, cell_far _ _ _ _ hne, HBLK.out.cell i, intsGet l i hi]
      · show l.length ≤ maxLen
        have := HFS.out.n2
        rw [hll]
        unfold maxLen
        omega
      · show (l.length : Int) = _
        rw [hll]
      · rw [HUS.out]
        exact plain_holds HFS.out HPL.out
      · have := HENT.out
        simpa using this
    · have HCIR := Lib.hid hcir
      have HOW := Lib.hid hown
      have hc0 := hcir.ne
      have hc0' : (0 : Int) < (c.length : Int) := by omega
      clear hcir hown
      go_wp2
      refine bodyPost_ret (results_cell_tmp rfl rfl (((HK3.out.put 0 (.bool true)).put 1 (.slice A2 c.length c2)).put 2 (.slice A1 0 c1)) Try.underlying37 rfl Try.sizeProof) rfl ?_
      refine ⟨⟨true, natInts c, []⟩, A2, c2, A1, c1, by rw [HE0.out]; simp only [natInts_len]; rfl, ⟨?_, NumsAt.nil _ _ _, ?_, Nat.zero_le _⟩, fun h => absurd HE0.out h, fun _ => ⟨⟨HFIT.out, .inl ⟨rfl, rfl, ?_⟩⟩, ?_⟩, ((HB3.out.setCell (p := ⟨w.heap.size + 1, 0, none⟩) (by simp) _).setCell (p := ⟨w.heap.size + 1, 1, none⟩) (by simp) _).setCell (p := ⟨w.heap.size + 1, 2, none⟩) (by simp) _⟩
      · obtain ⟨gc, cap', hv, hg1, hg2⟩ := HOW.out.form hc0
        cases hv
        refine nums_far (by simpa [World.setCell] using hg2) fun i hi => ?_
        have hi' : i < c.length := by rw [natInts_len] at hi; exact hi
        have hne : (⟨gc, i, none⟩ : Addr).block ≠ w.heap.size + 1 := by show gc ≠ _; omega
        rw [cell_far _ _ _ _ hne, cell_far _ _ _ _ hne, cell_far _ _ _ _ hne, HOW.out.cellAt i (by omega), natsGet c i hi', natInts_get]
      · show (natInts c).length ≤ _
        have := HFS.out.n2
        rw [natInts_len]
        omega
      · rw [HUS.out]
        exact circle_circP HFS.out HCIR.out
      · have := HENT.out
        simpa [hc0] using this

end Go.Proofs.Ytooogmppfjgdpaa
