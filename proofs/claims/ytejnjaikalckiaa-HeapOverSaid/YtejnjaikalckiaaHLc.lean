/- The contract of heap.Heap.Lock. -/
import Derived.Test.YtejnjaikalckiaaHOp
import Derived.Test.YtejnjaikalckiaaHOv
namespace Go.Proofs.Ytejnjaikalckiaa
open Go.RowKit

theorem Sep.replace {w W : World} {R X : Thing} {l : List Thing} (h : Sep w W (allT [R, X] :: l)) {i : Nat} (hi : i < l.length) : Sep w W (R :: l.set i X) := by
  obtain ⟨F, h⟩ := h
  obtain ⟨G, h1, h2, h3⟩ := h.holds 0 _ rfl
  refine ⟨fun j k => match j with | 0 => G 0 k | j + 1 => if j = i then G 1 k else F (j + 1) k, h.below, ?_, ?_, ?_⟩
  · intro j T hT
    cases j with
    | zero => cases hT; exact h1 0 _ rfl
    | succ j =>
      rw [List.getElem?_cons_succ] at hT
      by_cases hj : j = i
      · subst hj
        rw [List.getElem?_set_self hi] at hT
        cases hT
        simp only [if_true]
        exact h1 1 _ rfl
      · rw [List.getElem?_set_ne (Ne.symm hj)] at hT
        simp only [if_neg hj]
        exact h.holds (j + 1) T hT
  · intro j k hk
    cases j with
    | zero => exact h.above 0 k (h2 0 k hk).1
    | succ j =>
      by_cases hj : j = i
      · simp only [if_pos hj] at hk
        exact h.above 0 k (h2 1 k hk).1
      · simp only [if_neg hj] at hk
        exact h.above (j + 1) k hk
  · intro a b k hab ha hb
    cases a with
    | zero =>
      cases b with
      | zero => exact hab rfl
      | succ b =>
        by_cases hj : b = i
        · simp only [if_pos hj] at hb
          exact h3 0 1 k (by omega) ha hb
        · simp only [if_neg hj] at hb
          exact h.apart 0 (b + 1) k (by omega) (h2 0 k ha).1 hb
    | succ a =>
      cases b with
      | zero =>
        by_cases hj : a = i
        · simp only [if_pos hj] at ha
          exact h3 0 1 k (by omega) hb ha
        · simp only [if_neg hj] at ha
          exact h.apart 0 (a + 1) k (by omega) (h2 0 k hb).1 ha
      | succ b =>
        by_cases hj : a = i
        · simp only [if_pos hj] at ha
          by_cases hj2 : b = i
          · omega
          · simp only [if_neg hj2] at hb
            exact h.apart 0 (b + 1) k (by omega) (h2 1 k ha).1 hb
        · simp only [if_neg hj] at ha
          by_cases hj2 : b = i
          · simp only [if_pos hj2] at hb
            exact h.apart 0 (a + 1) k (by omega) (h2 1 k hb).1 ha
          · simp only [if_neg hj2] at hb
            exact h.apart (a + 1) (b + 1) k (by omega) ha hb

theorem ckRows_set (cs : List Ck) (vs : List Value) (k : Nat) (c : Ck) (v : Value) : (ckRows cs vs).set k (ckCells c v) = ckRows (cs.set k c) (vs.set k v) := by
  unfold ckRows
  induction cs generalizing vs k with
  | nil => simp
  | cons a cs ih =>
    cases vs with
    | nil => simp
    | cons u vs =>
      cases k with
      | zero => rfl
      | succ k => simp only [List.set_cons_succ, List.zipWith_cons_cons, ih]
theorem cellTs_set (t : TypeId) (cs : List Ck) (vs : List Value) (k : Nat) (c : Ck) (v : Value) : (List.zipWith (cellT t) cs vs).set k (cellT t c v) = List.zipWith (cellT t) (cs.set k c) (vs.set k v) := by
  induction cs generalizing vs k with
  | nil => simp
  | cons a cs ih =>
    cases vs with
    | nil => simp
    | cons u vs =>
      cases k with
      | zero => rfl
      | succ k => simp only [List.set_cons_succ, List.zipWith_cons_cons, ih]

section
variable {T : HTy} {w0 W W' : World} {R : Thing} {b : Nat} {bc : List Value} {vc vf : Value} {vs : List Value} {H : Hp} {olds : List (Value × Nat)}
theorem HSg.rest (h : HSg T w0 W R b bc vc vf vs H olds) : ∃ F, R.P W F := by
  obtain ⟨F, hF⟩ := h.sep
  exact ⟨F 0, hF.holds 0 _ rfl⟩
/- A lock is opened: other cells, and held. -/
theorem HSg.newCells {gk cap : Nat} {v' : Value} {cs : List Sy} {kn : Nat} {c : Ck} (h : HSg T w0 W (allT [R, rowT T.sym 4 v' (cs.map syCells)]) b bc (.slice (some ⟨gk, 0, none⟩) H.chunks.length cap) vf vs H olds) (hc : H.chunks[kn]? = some c) :
    HSg T w0 ((W.setCell ⟨gk, kn * 11 + 10, none⟩ v').setCell ⟨gk, kn * 11 + 4, none⟩ (.bool true)) R b bc (.slice (some ⟨gk, 0, none⟩) H.chunks.length cap) vf (vs.set kn v') { H with chunks := H.chunks.set kn { c with cells := cs, held := true } } olds := by
  have hk := (List.getElem?_eq_some_iff.1 hc).1
  obtain ⟨v, hv, hrow⟩ := ckRows_get h.len hc
  obtain ⟨F, hF, hn⟩ := h.sep.call 2 (rowT T.chunk 11 (.slice (some ⟨gk, 0, none⟩) H.chunks.length cap) (ckRows H.chunks vs)) rfl
  have hg := hF.2.1 gk rfl
  have hr := hF.1
  rw [ckRows_len h.len] at hr
  have h1 := hn ((W.setCell ⟨gk, kn * 11 + 10, none⟩ v').setCell ⟨gk, kn * 11 + 4, none⟩ (.bool true)) (rowT T.chunk 11 (.slice (some ⟨gk, 0, none⟩) H.chunks.length cap) (ckRows (H.chunks.set kn { c with cells := cs, held := true }) (vs.set kn v'))) (((Ch.refl F W).set ⟨gk, kn * 11 + 10, none⟩ (.inl hg) _).set ⟨gk, kn * 11 + 4, none⟩ (.inl hg) _) ⟨by
    have h2 := ((hr.stored (kn * 11 + 10) v').1.stored (kn * 11 + 4) (.bool true)).1
    have e0 := flatL_set ckRows_each hrow 10 v' (by omega)
    rw [e0] at h2
    have hl : kn < (ckRows H.chunks vs).length := by rw [ckRows_len h.len]; exact hk
    rw [flatL_set (rows := (ckRows H.chunks vs).set kn ((ckCells c v).set 10 v')) (fun r hr => by
      rcases List.mem_or_eq_of_mem_set hr with h | h
      · exact ckRows_each r h
      · rw [h]; rfl) (List.getElem?_set_self hl) 4 (.bool true) (by omega), List.set_set] at h2
    have e1 : ((ckCells c v).set 10 v').set 4 (.bool true) = ckCells { c with cells := cs, held := true } v' := rfl
    rw [e1, ckRows_set] at h2
    rw [ckRows_len (by simpa using h.len), List.length_set]
    exact h2, fun g hg' => by cases hg'; exact .inl hg, ckRows_each⟩
  have h2 := Sep.replace (X := rowT T.sym 4 v' (cs.map syCells)) (i := 3 + kn) (l := boxT b bc T.heap :: rowT T.chunk 11 (.slice (some ⟨gk, 0, none⟩) H.chunks.length cap) (ckRows (H.chunks.set kn { c with cells := cs, held := true }) (vs.set kn v')) :: factT T.leq vf H.facts olds :: List.zipWith (cellT T.sym) H.chunks vs) h1 (by
    simp only [List.length_cons, List.length_zipWith, h.len]
    omega)
  refine ⟨?_, by simpa using h.len⟩
  unfold compsT
  rw [← cellTs_set]
  rw [show 3 + kn = kn + 1 + 1 + 1 by omega] at h2
  simp only [List.set_cons_succ] at h2
  exact h2
end

def LcPost (w0 : World) (R : Thing) (b : Nat) (vc : Value) (H H' : Hp) (v : Value) (e : Ending) (w' : World) : Prop := ∃ vf' vs', e = .returned v ∧ HS pT w0 w' R b vc vf' vs' H' []
theorem lc1 {H : Hp} {p : Sy} {n : Int} {fs : List F} (h : mayE H p n false ≠ 0) : lockE H p n fs = mayE H p n false ∧ lockH H p n fs = H := by unfold lockE lockH; rw [if_pos h, if_pos h]; exact ⟨rfl, rfl⟩
theorem lc2 {H : Hp} {p : Sy} {n : Int} {fs : List F} (h : mayE H p n false = 0) (hn : lockT H p fs = none) : lockE H p n fs = 22 ∧ lockH H p n fs = H := by unfold lockE lockH; rw [if_neg (by simpa using h), if_neg (by simpa using h), hn]; exact ⟨rfl, rfl⟩
theorem lc3 {H H' : Hp} {p : Sy} {n : Int} {fs : List F} (h : mayE H p n false = 0) (hn : lockT H p fs = some H') : lockE H p n fs = 0 ∧ lockH H p n fs = H' := by unfold lockE lockH; rw [if_neg (by simpa using h), if_neg (by simpa using h), hn]; exact ⟨rfl, rfl⟩
theorem lt1 {H : Hp} {p : Sy} {fs : List F} {c : Ck} (hc : ckAt H p.b = c) (h : openL c.at' 0 c.cells H = none) : lockT H p fs = none := by subst hc; unfold lockT; rw [h]
theorem lt2 {H H1 : Hp} {p : Sy} {fs : List F} {c : Ck} {cs : List Sy} (hc : ckAt H p.b = c) (h : openL c.at' 0 c.cells H = some (cs, H1)) (hm : 768 < H1.facts.length + fs.length) : lockT H p fs = none := by subst hc; unfold lockT; rw [h]; simp only; rw [if_pos hm]
theorem lt3 {H H1 : Hp} {p : Sy} {fs : List F} {c : Ck} {cs : List Sy} (hc : ckAt H p.b = c) (h : openL c.at' 0 c.cells H = some (cs, H1)) (hm : ¬ 768 < H1.facts.length + fs.length) : lockT H p fs = some (setCk { H1 with facts := H1.facts ++ fs.map (overF cs) } p.b { c with cells := cs, held := true }) := by subst hc; unfold lockT; rw [h]; simp only; rw [if_neg hm]
theorem mayE_ok {H : Hp} {p : Sy} {n : Int} {held : Bool} (h : mayE H p n held = 0) : ∃ kn : Nat, p.b = kn ∧ kn < H.chunks.length ∧ H.chunks[kn]? = some (ckAt H p.b) ∧ (ckAt H p.b).o = 6 ∧ (ckAt H p.b).held = held ∧ n = (ckAt H p.b).at' := by
  unfold mayE at h
  by_cases hc : chunkE H p = 0
  · rw [if_neg (by simpa using hc)] at h
    obtain ⟨_, kn, h1, h2, h3, _⟩ := chunkE_ok hc
    split at h
    · cases h
    · rename_i h4
      split at h
      · cases h
      · rename_i h5
        refine ⟨kn, h1, h2, h3, ?_, ?_, by simpa using h5⟩
        · by_cases h6 : (ckAt H p.b).o = 6
          · exact h6
          · exact absurd (.inl h6) h4
        · by_cases h6 : (ckAt H p.b).held = held
          · exact h6
          · exact absurd (.inr h6) h4
  · rw [if_pos hc] at h
    exact absurd h hc

theorem lcEnd {w0 : World} {R : Thing} {b : Nat} {vc : Value} {H H1 H2 : Hp} {n1 n2 : Int} {vf' : Value} {vs' : List Value} {w' : World} (h : n1 = n2 ∧ H1 = H2) (hs : HS pT w0 w' R b vc vf' vs' H2 []) : LcPost w0 R b vc H H1 (.int .i64 n1) (.returned (.int .i64 n2)) w' := by
  obtain ⟨rfl, rfl⟩ := h
  exact ⟨vf', vs', rfl, hs⟩
/- Cells that are opened are of numbers near 0 if those that were there are. -/
theorem openL_near {a : Int} : ∀ {l : List Sy} {i : Nat} {H H1 : Hp} {cs : List Sy}, openL a i l H = some (cs, H1) → (∀ s ∈ l, Near s.k) → ∀ s ∈ cs, Near s.k
  | [], i, H, H1, cs, h, _ => by
    simp only [openL, Option.some.injEq, Prod.mk.injEq] at h
    rw [← h.1]
    intro s hs
    simp at hs
  | s :: l, i, H, H1, cs, h, hn => by
    by_cases ha : (i : Int) = a
    · rw [openL_at ha] at h
      cases hq : openL a (i + 1) l H with
      | none => rw [hq] at h; cases h
      | some r =>
        rw [hq] at h
        simp only [Option.map_some, Option.some.injEq, Prod.mk.injEq] at h
        have ih := openL_near (cs := r.1) (H1 := r.2) hq (fun s hs => hn s (by simp [hs]))
        rw [← h.1]
        intro x hx
        rcases List.mem_cons.1 hx with rfl | hx
        · exact hn _ (by simp)
        · exact ih x hx
    · cases hc : freshC H with
      | true => rw [openL_no ha hc] at h; cases h
      | false =>
        rw [openL_go ha hc] at h
        cases hq : openL a (i + 1) l (freshH H) with
        | none => rw [hq] at h; cases h
        | some r =>
          rw [hq] at h
          simp only [Option.map_some, Option.some.injEq, Prod.mk.injEq] at h
          have ih := openL_near (cs := r.1) (H1 := r.2) hq (fun s hs => hn s (by simp [hs]))
          rw [← h.1]
          intro x hx
          rcases List.mem_cons.1 hx with rfl | hx
          · unfold freshY; rw [if_neg (by rw [hc]; decide)]; exact ⟨show (-4398046511104 : Int) ≤ 0 by decide, show (0 : Int) ≤ 4398046511104 by decide⟩
          · exact ih x hx

set_option maxRecDepth 100000 in
set_option maxHeartbeats 16000000 in
theorem lock_any {w0 w : World} {R : Thing} {b : Nat} {vc vf : Value} {vs : List Value} {H : Hp} (h : HS pT w0 w R b vc vf vs H []) (hl : H.facts.length ≤ 768) (hv : 0 ≤ H.vars ∧ H.vars ≤ 96) (hcl : ∀ c ∈ H.chunks, c.cells.length ≤ 1000000 ∧ ∀ s ∈ c.cells, Near s.k) (p : Sy) (n : Int) {B : Option Addr} {capB : Nat} {fs : List F} (hR : ∀ W F, R.P W F → FactsAt W W.heap.size B fs) (hfl : fs.length ≤ 1000) (hfs : ∀ f ∈ fs, FcOk f) :
    Calls Try.prog 26 #[.pointer (some ⟨b, 0, none⟩), SyV p, .int .i64 n, .slice B fs.length capB] w (LcPost w0 R b vc H (lockH H p n fs) (.int .i64 (lockE H p n fs))) := by
  have hb0 : Below w.heap.size w (w.alloc (.cells #[.int .i64 p.kind, .int .i64 p.v, .int .i64 p.k, .int .i64 p.b] 36)) := (Below.refl _ _).alloc (Nat.le_refl _) _
  have hlm := lock_may (HSg.quiet h hb0) p n false
  have HH := Lib.hid h
  clear h
  unfold SyV at *
  go_enter Try.func26, Try.ntmps26
  go_wp2_with fail
  ((with_reducible refine hlm.mono ?_); rintro e w2 ⟨rfl, hb⟩)
  have HB2 := Lib.hid (hb0.trans (hb.mono hb0.size))
  clear hb hb0 hlm
  by_cases hm : mayE H p n false = 0
  case neg =>
    have HM := Lib.hid (lc1 (fs := fs) hm)
    rw [if_neg hm]
    have t1 : (mayE H p n false != 0) = true := by simpa using hm
    clear hm hR
    generalize mayE H p n false = cd at *
    go_wp2_with fail
    go_ret
    exact lcEnd HM.out (HSg.quiet HH.out HB2.out)
  case pos =>
    rw [hm, if_pos rfl]
    obtain ⟨kn, hkn, hkl, hck, h6, hh, hna⟩ := mayE_ok hm
    obtain ⟨c, hc⟩ : ∃ c, ckAt H p.b = c := ⟨_, rfl⟩
    have HC := Lib.hid hc
    have HM := Lib.hid hm
    rw [hc] at hck
    have hpn : p.b.toNat = kn := by omega
    have HPN := Lib.hid hpn
    rw [hpn]
    have h2 := (HSg.quiet HH.out HB2.out).keepOld
    obtain ⟨gk, capk, vk, rfl, _, hcm, _⟩ := HSg.chunk h2 hck
    obtain ⟨FA, fcap, rfl, _, _, hfcm⟩ := HSg.factsForm h2
    obtain ⟨c0, c1, c2, z, hlt⟩ := HSg.three h2
    have h3 := h2.box [.slice (some ⟨gk, 0, none⟩) H.chunks.length capk, .int .i64 H.vars, .slice FA H.facts.length fcap] 27
    have hop := opened_any h3 hl hv hck (hcl c (List.mem_of_getElem? hck)).1 (A := some ⟨gk, kn * 11, none⟩) rfl
    have HCK := Lib.hid hck
    have HCL := Lib.hid (hcl c (List.mem_of_getElem? hck))
    simp only [ckPtr]
    clear hc hm hpn hck h2 h6 hh hna h3
    go_wp2_with fail
    ((with_reducible refine hop.mono ?_); rintro e w3 hp)
    clear hop c0 c1 c2 z
    rcases hp with ⟨hno, rfl, vf', H1, ex, h3, hch, hfx⟩ | ⟨cs, H1, ex, vf', A', cap', hsome, hcsl, rfl, h3, hch, hfx, hfl1⟩
    · have HM2 := Lib.hid (lc2 (n := n) HM.out (lt1 (fs := fs) HC.out hno))
      obtain ⟨ch1, va1, fa1⟩ := H1
      simp only at hch hfx
      subst hch
      subst hfx
      obtain ⟨c0, c1, c2, z, hlt⟩ := HSg.three (HSg.front h3)
      obtain ⟨b0, b1, b2⟩ := (show w3.cell? ⟨w2.heap.size, 0, none⟩ = _ ∧ w3.cell? ⟨w2.heap.size, 1, none⟩ = _ ∧ w3.cell? ⟨w2.heap.size, 2, none⟩ = _ from ⟨(HSg.local h3).1.cell 0, (HSg.local h3).1.cell 1, (HSg.local h3).1.cell 2⟩)
      simp only [List.getElem?_cons_zero, List.getElem?_cons_succ] at b0 b1 b2
      have H3 := Lib.hid (((((HSg.front h3).put 0 (.slice (some ⟨gk, 0, none⟩) H.chunks.length capk)).put 1 (.int .i64 H.vars)).put 2 (.slice FA H.facts.length fcap)).vars H.vars)
      clear h3 hR hno
      go_wp2_with fail
      go_ret
      refine lcEnd HM2.out (vf' := .slice FA H.facts.length fcap) (vs' := vs) ?_
      exact HSg.back (H := H) (fs := H.facts ++ ex) H3.out (List.take_left' rfl)
    · obtain ⟨RF, hRF⟩ := (HSg.front (HSg.front h3)).rest
      have hrow := HSg.rowFacts h3
      rw [List.length_map, ← hcsl] at hrow
      have hov := over_any (capA := cap') (capB := capB) w3 (A := A') (B := B) (l := cs) (fs := fs) (SysAt.of_own hrow) (hR w3 RF hRF) (by rw [hcsl]; exact HCL.out.1) hfl (openL_near hsome HCL.out.2) hfs
      rw [hcsl] at hov
      have H3 := Lib.hid h3
      have HSM := Lib.hid hsome
      clear hrow hR hRF h3 hsome
      go_wp2_with fail
      ((with_reducible refine hov.mono ?_); rintro e w4 ⟨g, rfl, hg, hbk, hb⟩)
      have h4 := HSg.quiet H3.out hb
      have hfa : FactsAt w4 w4.heap.size (some ⟨g, 0, none⟩) (fs.map (overF cs)) := fun _ => ⟨g, 0, rfl, hbk.lt, fun i f hf => by
        have key : ∀ q v, (fCells f)[q]? = some v → q < 3 → w4.cell? ⟨g, 0 + i * 3 + q, none⟩ = some v := fun q v hv hq => by rw [Nat.zero_add, hbk.cell, factCells_get _ i f q hf hq]; exact hv
        exact ⟨key 0 _ rfl (by omega), key 1 _ rfl (by omega), key 2 _ rfl (by omega)⟩⟩
      have has := assume_any h4 hfl1 (cap := fs.length) hfa (by simp; omega)
      rw [List.length_map] at has
      clear hov hg hbk hb h4 hfa H3
      go_wp2_with fail
      ((with_reducible refine has.mono ?_); rintro e w5 ⟨vf5, rfl, h5⟩)
      clear has
      unfold assumeE assumeH at *
      rw [List.length_map] at h5 ⊢
      by_cases hmany : 768 < H1.facts.length + fs.length
      · rw [if_pos hmany] at h5 ⊢
        have HM2 := Lib.hid (lc2 (n := n) HM.out (lt2 HC.out HSM.out hmany))
        obtain ⟨ch1, va1, fa1⟩ := H1
        simp only at hch hfx
        subst hch
        subst hfx
        have h6 := HSg.front h5
        obtain ⟨c0, c1, c2, z, hlt⟩ := HSg.three (HSg.front h6)
        obtain ⟨b0, b1, b2⟩ := (show w5.cell? ⟨w2.heap.size, 0, none⟩ = _ ∧ w5.cell? ⟨w2.heap.size, 1, none⟩ = _ ∧ w5.cell? ⟨w2.heap.size, 2, none⟩ = _ from ⟨(HSg.local h6).1.cell 0, (HSg.local h6).1.cell 1, (HSg.local h6).1.cell 2⟩)
        simp only [List.getElem?_cons_zero, List.getElem?_cons_succ] at b0 b1 b2
        have H3 := Lib.hid (((((HSg.front h6).put 0 (.slice (some ⟨gk, 0, none⟩) H.chunks.length capk)).put 1 (.int .i64 H.vars)).put 2 (.slice FA H.facts.length fcap)).vars H.vars)
        clear h5 h6 HSM hmany
        go_wp2_with fail
        go_ret
        refine lcEnd HM2.out (vf' := .slice FA H.facts.length fcap) (vs' := vs) ?_
        exact HSg.back (H := H) (fs := H.facts ++ ex) H3.out (List.take_left' rfl)
      · rw [if_neg hmany] at h5 ⊢
        have HM2 := Lib.hid (lc3 (n := n) HM.out (lt3 HC.out HSM.out hmany))
        have hck5 : H1.chunks[kn]? = some c := by rw [hch]; exact HCK.out
        obtain ⟨gk', capk', vk', hvc', _, _, hgl', _, _, hcell', hfz'⟩ := HSg.chunk h5 hck5
        obtain ⟨rfl, rfl⟩ : gk = gk' ∧ capk = capk' := by simp only at hvc'; rw [hch] at hvc'; simpa using hvc'
        have q10 := hcell' 10 (by omega)
        have q4 := hcell' 4 (by omega)
        change w5.cell? ⟨gk, kn * 11 + 10, none⟩ = some vk' at q10
        change w5.cell? ⟨gk, kn * 11 + 4, none⟩ = some (.bool c.held) at q4
        have H5 := Lib.hid h5
        have HCH := Lib.hid hch
        clear h5 HSM hcell' hvc' hch
        go_wp2_with fail
        go_ret
        refine lcEnd HM2.out (vf' := vf5) (vs' := vs.set kn (.slice A' c.cells.length cap')) ?_
        have h6 := HSg.noOld (HSg.front (HSg.swapR H5.out))
        have e1 : setCk { chunks := H1.chunks, vars := H1.vars, facts := H1.facts ++ List.map (overF cs) fs } p.b { c with cells := cs, held := true } = { chunks := H1.chunks.set kn { c with cells := cs, held := true }, vars := H1.vars, facts := H1.facts ++ List.map (overF cs) fs } := by unfold setCk; rw [HPN.out]
        rw [e1]
        rw [show H.chunks.length = ({ chunks := H1.chunks, vars := H1.vars, facts := H1.facts ++ List.map (overF cs) fs } : Hp).chunks.length by rw [← HCH.out]] at h6 ⊢
        exact HSg.newCells h6 hck5

end Go.Proofs.Ytejnjaikalckiaa
