/- The contracts of the layout's statement and block, at every depth. The contract of the layout's block, at every depth. -/
import Derived.Test.YtnmpfpnldcgbaaaDoorP31
namespace Go.Proofs.YtnmpfpnldcgbaaaDoor
section
open Go.RowKit

set_option maxRecDepth 100000 in
set_option maxHeartbeats 2000000 in
theorem stmt_set {n : Nat} {w : World} {pb : Nat} {v : Value} {is : List Ins} {tx : ByteArray} {nm : Int} {p : Nat} {ks : List T} {kv : Value} (hb : Blk w pb [v] 93) (hi : InsAt w is (fun b => pb < b) v) (hk : KAt 25 w ks (fun b => b < pb) kv)
    (hx : isExprK (kidP (.mk 10 tx nm p ks) 0).kind) (hkl : (kidP (.mk 10 tx nm p ks) 0).kids.length ≤ 50000) (hl : is.length ≤ 80000) :
    Calls Tryd.prog 62 #[.pointer (some ⟨pb, 0, none⟩), NodeV (.mk 10 tx nm p ks) kv] w (LPost pb w v (is ++ stmtI (blockI n) is.length (.mk 10 tx nm p ks))) := by
  have hst : stmtI (blockI n) is.length (.mk 10 tx nm p ks) = [setI (.mk 10 tx nm p ks)] := rfl
  obtain ⟨j, hj⟩ : ∃ j, setI (.mk 10 tx nm p ks) = j := ⟨_, rfl⟩
  rw [hst, hj]
  have HJ := Lib.hid hj
  clear hst hj
  have hlo := hb.lt
  have hvlt : ∀ k, v.ownBlock = some k → k < w.heap.size := fun k hk => (hi.rowLt hk).2
  obtain ⟨w0, hw0, HL0, HK0, HB0, HZ0⟩ : ∃ w0 : World, w.alloc (.cells (nodeCells (.mk 10 tx nm p ks) kv).toArray 25) = w0 ∧ Hid (Lay pb w0 v is w0 v) ∧ Hid (KAt 25 w0 (T.mk 10 tx nm p ks).kids (fun b => b < pb) kv) ∧ Hid (Below w.heap.size w w0) ∧ Hid (w.heap.size < w0.heap.size) :=
    ⟨_, rfl, Lib.hid (Lay.start (hb.alloc _) (hi.alloc _)), Lib.hid (hk.alloc _), Lib.hid ((Below.refl _ _).alloc (Nat.le_refl _) _), Lib.hid (by simp)⟩
  have HV := Lib.hid hvlt
  have HLO := Lib.hid hlo
  have HX := Lib.hid hx
  have HKL := Lib.hid hkl
  clear hb hi hk hlo hvlt hx hkl
  unfold NodeV
  simp only [kind_mk, text_mk, num_mk, place_mk]
  go_enter Tryd.func62, Tryd.ntmps62
  go_wp2_with fail
  refine calls_at w0 hw0 ?_
  clear hw0
  refine (set_any (t := .mk 10 tx nm p ks) HK0.out HX.out HKL.out).mono ?_
  rintro e w1 ⟨u, rfl, hu, hb1⟩
  rw [HJ.out] at hu ⊢
  obtain ⟨ua, un, uc, rfl⟩ := hu.slice
  have HL1 := Lib.hid (HL0.out.below hb1)
  have HU1 := Lib.hid (argsOf (W0 := w0) (fun k e => Nat.lt_trans (HV.out k e) HZ0.out) (Nat.lt_trans HLO.out HZ0.out) hu)
  clear hu hb1
  unfold InsV
  go_wp2_with fail
  refine (put_any HL1.out.blk HL1.out.ins HU1.out (by omega)).mono ?_
  rintro e w2 ⟨rfl, V2, hl2⟩
  have HL2 := Lib.hid ((HL1.out.trans hl2).back HB0.out HLO.out HV.out)
  clear hl2
  go_wp2_with fail
  refine bodyPost_ret (v := .tuple #[]) (by simp [results, Tryd.results62]) rfl ?_
  exact ⟨rfl, _, HL2.out⟩

set_option maxRecDepth 100000 in
set_option maxHeartbeats 2000000 in
theorem stmt_simple {n : Nat} {w : World} {pb : Nat} {v : Value} {is : List Ins} {k : Int} {tx : ByteArray} {nm : Int} {p : Nat} {ks : List T} {kv : Value} (hb : Blk w pb [v] 93) (hi : InsAt w is (fun b => pb < b) v) (hk : KAt 25 w ks (fun b => b < pb) kv)
    (h10 : (k == 10) = false) (h15 : (k == 15) = false) (h16 : (k == 16) = false) {j : Ins} (hj : simpleI (.mk k tx nm p ks) = some j)
    (hs : ∀ {w' : World}, KAt 25 w' ks (fun b => b < pb) kv → Calls Tryd.prog 82 #[NodeV (.mk k tx nm p ks) kv] w' (SimplePost w' j)) (hl : is.length ≤ 80000) :
    Calls Tryd.prog 62 #[.pointer (some ⟨pb, 0, none⟩), NodeV (.mk k tx nm p ks) kv] w (LPost pb w v (is ++ stmtI (blockI n) is.length (.mk k tx nm p ks))) := by
  have hst : stmtI (blockI n) is.length (.mk k tx nm p ks) = [j] := by
    unfold stmtI
    rw [kind_mk, h15, h16, h10, hj]
    rfl
  rw [hst]
  clear hst hj
  have hlo := hb.lt
  have hvlt : ∀ k, v.ownBlock = some k → k < w.heap.size := fun k hk => (hi.rowLt hk).2
  obtain ⟨w0, hw0, HL0, HS0, HB0, HZ0⟩ : ∃ w0 : World, w.alloc (.cells (nodeCells (.mk k tx nm p ks) kv).toArray 25) = w0 ∧ Hid (Lay pb w0 v is w0 v) ∧ Hid (Calls Tryd.prog 82 #[NodeV (.mk k tx nm p ks) kv] w0 (SimplePost w0 j)) ∧ Hid (Below w.heap.size w w0) ∧ Hid (w.heap.size < w0.heap.size) :=
    ⟨_, rfl, Lib.hid (Lay.start (hb.alloc _) (hi.alloc _)), Lib.hid (hs (hk.alloc _)), Lib.hid ((Below.refl _ _).alloc (Nat.le_refl _) _), Lib.hid (by simp)⟩
  have HV := Lib.hid hvlt
  have HLO := Lib.hid hlo
  clear hb hi hk hlo hvlt hs
  unfold NodeV at HS0 ⊢
  simp only [kind_mk, text_mk, num_mk, place_mk] at HS0 ⊢
  go_enter Tryd.func62, Tryd.ntmps62
  go_wp2_with fail
  refine calls_at w0 hw0 ?_
  clear hw0
  refine HS0.out.mono ?_
  rintro e w1 ⟨u, rfl, hu, hb1⟩
  clear HS0
  obtain ⟨ua, un, uc, rfl⟩ := hu.slice
  have HL1 := Lib.hid (HL0.out.below (hb1.alloc hb1.size (.cells (insCells j (.slice ua un uc)).toArray 43)))
  have HU1 := Lib.hid ((argsOf (W0 := w0) (fun k e => Nat.lt_trans (HV.out k e) HZ0.out) (Nat.lt_trans HLO.out HZ0.out) hu).alloc (.cells (insCells j (.slice ua un uc)).toArray 43))
  clear hu hb1
  unfold InsV
  go_wp2_with fail
  refine (put_any HL1.out.blk HL1.out.ins HU1.out (by omega)).mono ?_
  rintro e w2 ⟨rfl, V2, hl2⟩
  have HL2 := Lib.hid ((HL1.out.trans hl2).back HB0.out HLO.out HV.out)
  clear hl2
  go_wp2_with fail
  refine bodyPost_ret (v := .tuple #[]) (by simp [results, Tryd.results62]) rfl ?_
  exact ⟨rfl, _, HL2.out⟩

set_option maxRecDepth 100000 in
set_option maxHeartbeats 2000000 in
theorem stmt_if {n : Nat} {w : World} {pb : Nat} {v : Value} {is : List Ins} {tx : ByteArray} {nm : Int} {p : Nat} {ks : List T} {kv : Value} (hb : Blk w pb [v] 93) (hi : InsAt w is (fun b => pb < b) v)
    (hc : ∀ {w0 : World}, w0 = w.alloc (.cells (nodeCells (.mk 15 tx nm p ks) kv).toArray 25) → Calls Tryd.prog 79 #[.pointer (some ⟨pb, 0, none⟩), NodeV (.mk 15 tx nm p ks) kv] w0 (LPost pb w0 v (is ++ stmtI (blockI n) is.length (.mk 15 tx nm p ks)))) :
    Calls Tryd.prog 62 #[.pointer (some ⟨pb, 0, none⟩), NodeV (.mk 15 tx nm p ks) kv] w (LPost pb w v (is ++ stmtI (blockI n) is.length (.mk 15 tx nm p ks))) := by
  have HV := Lib.hid (show ∀ k, v.ownBlock = some k → k < w.heap.size from fun k hk => (hi.rowLt hk).2)
  have HLO := Lib.hid hb.lt
  have HC := Lib.hid (hc rfl)
  generalize stmtI (blockI n) is.length (.mk 15 tx nm p ks) = l at *
  clear hb hi hc
  unfold NodeV at HC ⊢
  simp only [kind_mk, text_mk, num_mk, place_mk] at HC ⊢
  go_enter Tryd.func62, Tryd.ntmps62
  go_wp2_with fail
  refine HC.out.mono ?_
  rintro e w2 ⟨rfl, V2, hl2⟩
  have HL2 := Lib.hid (hl2.back ((Below.refl _ _).alloc (Nat.le_refl _) _) HLO.out HV.out)
  clear hl2 HC
  go_wp2_with fail
  refine bodyPost_ret (v := .tuple #[]) (by simp [results, Tryd.results62]) rfl ?_
  exact ⟨rfl, _, HL2.out⟩

set_option maxRecDepth 100000 in
set_option maxHeartbeats 2000000 in
theorem stmt_while {n : Nat} {w : World} {pb : Nat} {v : Value} {is : List Ins} {tx : ByteArray} {nm : Int} {p : Nat} {ks : List T} {kv : Value} (hb : Blk w pb [v] 93) (hi : InsAt w is (fun b => pb < b) v)
    (hc : ∀ {w0 : World}, w0 = w.alloc (.cells (nodeCells (.mk 16 tx nm p ks) kv).toArray 25) → Calls Tryd.prog 80 #[.pointer (some ⟨pb, 0, none⟩), NodeV (.mk 16 tx nm p ks) kv] w0 (LPost pb w0 v (is ++ stmtI (blockI n) is.length (.mk 16 tx nm p ks)))) :
    Calls Tryd.prog 62 #[.pointer (some ⟨pb, 0, none⟩), NodeV (.mk 16 tx nm p ks) kv] w (LPost pb w v (is ++ stmtI (blockI n) is.length (.mk 16 tx nm p ks))) := by
  have HV := Lib.hid (show ∀ k, v.ownBlock = some k → k < w.heap.size from fun k hk => (hi.rowLt hk).2)
  have HLO := Lib.hid hb.lt
  have HC := Lib.hid (hc rfl)
  generalize stmtI (blockI n) is.length (.mk 16 tx nm p ks) = l at *
  clear hb hi hc
  unfold NodeV at HC ⊢
  simp only [kind_mk, text_mk, num_mk, place_mk] at HC ⊢
  go_enter Tryd.func62, Tryd.ntmps62
  go_wp2_with fail
  refine HC.out.mono ?_
  rintro e w2 ⟨rfl, V2, hl2⟩
  have HL2 := Lib.hid (hl2.back ((Below.refl _ _).alloc (Nat.le_refl _) _) HLO.out HV.out)
  clear hl2 HC
  go_wp2_with fail
  refine bodyPost_ret (v := .tuple #[]) (by simp [results, Tryd.results62]) rfl ?_
  exact ⟨rfl, _, HL2.out⟩
end

section
open Go.RowKit

theorem fit_set {ks : List T} (h : Fit 10 ks) : ∃ a, ks = [a] ∧ isExprK a.kind := by
  cases h with
  | set _ ha => exact ⟨_, rfl, ha⟩
  | unit e | type e | none e | one e | two e | fn e | param e | block e | cond e | loop e | call1 e | load e | call e | leaf e => omega
theorem fit_do {ks : List T} (h : Fit 20 ks) : ∃ a, ks = [a] := by
  cases h with
  | call1 _ _ => exact ⟨_, rfl⟩
  | unit e | type e | none e | one e | two e | fn e | param e | block e | set e | cond e | loop e | load e | call e | leaf e => omega
theorem KAt.sliceLen {e : TypeId} {w : World} {ks : List T} {S : Nat → Prop} {a : Option Addr} {n c : Nat} (h : KAt e w ks S (.slice a n c)) : n = ks.length := by
  rcases h.form with ⟨h1, h2⟩ | ⟨g, cap, h1, _⟩
  · cases h1; rw [h2]; rfl
  · cases h1; rfl

theorem stmt_any {n : Nat} (ih : BlockOK n) {w : World} {pb : Nat} {v : Value} {is : List Ins} {t : T} {kv : Value} (hb : Blk w pb [v] 93) (hi : InsAt w is (fun b => pb < b) v) (hk : KAt 25 w t.kids (fun b => b < pb) kv)
    (hw : t.whole) (hst : isStmtK t.kind) (hs : t.size ≤ n + 1) (hl : is.length + 2 * t.size ≤ 80000) :
    Calls Tryd.prog 62 #[.pointer (some ⟨pb, 0, none⟩), NodeV t kv] w (LPost pb w v (is ++ stmtI (blockI n) is.length t)) := by
  have hform := stmt_form hw hst
  cases t with
  | mk k tx nm p ks =>
    obtain ⟨hf, hws⟩ := whole_mk.1 hw
    rw [size_mk] at hs hl
    have hkl := len_sizes ks
    have hk' : KAt 25 w ks (fun b => b < pb) kv := hk
    have h11 : k = 10 ∨ k = 11 ∨ k = 12 ∨ k = 13 ∨ k = 14 ∨ k = 15 ∨ k = 16 ∨ k = 17 ∨ k = 18 ∨ k = 19 ∨ k = 20 := by unfold isStmtK at hst; rw [kind_mk] at hst; omega
    rcases h11 with rfl | rfl | rfl | rfl | rfl | rfl | rfl | rfl | rfl | rfl | rfl
    · obtain ⟨a, rfl, ha⟩ := fit_set hf
      refine stmt_set hb hi hk' ha ?_ (by omega)
      have h1 := kids_len a
      rw [sizes_cons] at hl
      show a.kids.length ≤ _
      omega
    · exact stmt_simple hb hi hk' rfl rfl rfl (simple_11 hk').1 (fun h => (simple_11 h).2) (by omega)
    · exact stmt_simple hb hi hk' rfl rfl rfl (simple_12 hk').1 (fun h => (simple_12 h).2) (by omega)
    · exact stmt_simple hb hi hk' rfl rfl rfl (simple_13 hk').1 (fun h => (simple_13 h).2) (by omega)
    · exact stmt_simple hb hi hk' rfl rfl rfl (simple_14 hk').1 (fun h => (simple_14 h).2) (by omega)
    · rcases hform with ⟨_, a, b, c, d, he, _, hcd, _, hc, hd⟩ | ⟨h, _⟩ | ⟨h, _⟩
      · have he' : ks = [a, b, c, d] := he
        have hc2 : c.size = 1 + sizes c.kids := by cases c; rw [size_mk]; rfl
        have hd2 : d.size = 1 + sizes d.kids := by cases d; rw [size_mk]; rfl
        have hsz : sizes ks = a.size + (b.size + (c.size + (d.size + 0))) := by rw [he', sizes_cons, sizes_cons, sizes_cons, sizes_cons, sizes_nil]
        refine stmt_if hb hi fun hw0 => ?_
        subst hw0
        exact ifNode_any ih (hb.alloc _) (hi.alloc _) (hk'.alloc _) he' (block_kids hc hcd.1) (block_kids hd hcd.2) (by omega) (by omega)
      · exact absurd (show (15 : Int) = 16 from h) (by decide)
      · exact absurd rfl h
    · rcases hform with ⟨h, _⟩ | ⟨_, a, b, c, he, _, hc9, _, hc⟩ | ⟨_, h, _⟩
      · exact absurd (show (16 : Int) = 15 from h) (by decide)
      · have he' : ks = [a, b, c] := he
        have hc2 : c.size = 1 + sizes c.kids := by cases c; rw [size_mk]; rfl
        have hsz : sizes ks = a.size + (b.size + (c.size + 0)) := by rw [he', sizes_cons, sizes_cons, sizes_cons, sizes_nil]
        refine stmt_while hb hi fun hw0 => ?_
        subst hw0
        exact while_any ih (hb.alloc _) (hi.alloc _) (hk'.alloc _) he' (block_kids hc hc9) (by omega) (by omega)
      · exact absurd rfl h
    · exact stmt_simple hb hi hk' rfl rfl rfl (simple_17 hk' fun _ _ _ e => by subst e; exact hk'.sliceLen).1 (fun h => (simple_17 h fun _ _ _ e => by subst e; exact hk'.sliceLen).2) (by omega)
    · exact stmt_simple hb hi hk' rfl rfl rfl (simple_18 hk').1 (fun h => (simple_18 h).2) (by omega)
    · exact stmt_simple hb hi hk' rfl rfl rfl (simple_19 hk' (by omega)).1 (fun h => (simple_19 h (by omega)).2) (by omega)
    · obtain ⟨a, rfl⟩ := fit_do hf
      cases a with
      | mk ck cx cn cp cks =>
        have h1 := len_sizes cks
        rw [sizes_cons, size_mk] at hl
        exact stmt_simple hb hi hk' rfl rfl rfl (simple_20 hk' rfl (by omega)).1 (fun h => (simple_20 h rfl (by omega)).2) (by omega)

theorem wholes_take : ∀ {ks : List T} (k : Nat), wholes ks → wholes (ks.take k)
  | [], _, h => by simpa using h
  | a :: l, 0, _ => wholes_nil
  | a :: l, k + 1, h => wholes_cons.2 ⟨(wholes_cons.1 h).1, wholes_take k (wholes_cons.1 h).2⟩

set_option maxRecDepth 100000 in
set_option maxHeartbeats 2000000 in
theorem block_nil {w : World} {pb : Nat} {v : Value} {is : List Ins} {kd : Int} {tx : ByteArray} {nm : Int} {p : Nat} {kv : Value} (hb : Blk w pb [v] 93) (hi : InsAt w is (fun b => pb < b) v) (hk : KAt 25 w [] (fun b => b < pb) kv) :
    Calls Tryd.prog 40 #[.pointer (some ⟨pb, 0, none⟩), NodeV (.mk kd tx nm p []) kv] w (LPost pb w v is) := by
  rcases hk.form with ⟨rfl, _⟩ | ⟨g, cap, rfl, hg, hcap, hcm, _⟩
  · have HL0 := Lib.hid ((Lay.start (hb.alloc (.cells (nodeCells (.mk kd tx nm p []) (.slice none 0 0)).toArray 25)) (hi.alloc _)).back ((Below.refl _ _).alloc (Nat.le_refl _) _) hb.lt fun k hk => (hi.rowLt hk).2)
    clear hb hi hk
    unfold NodeV
    simp only [kind_mk, text_mk, num_mk, place_mk]
    go_enter Tryd.func40, Tryd.ntmps40
    go_wp2_with fail
    refine wp_loop_rounds 1 ?_
    rw [rounds_succ]
    go_wp2_with fail
    refine bodyPost_ret (v := .tuple #[]) (by simp [results, Tryd.results40]) rfl ?_
    exact ⟨rfl, v, HL0.out⟩
  · have HL0 := Lib.hid ((Lay.start (hb.alloc (.cells (nodeCells (.mk kd tx nm p []) (.slice (some ⟨g, 0, none⟩) 0 cap)).toArray 25)) (hi.alloc _)).back ((Below.refl _ _).alloc (Nat.le_refl _) _) hb.lt fun k hk => (hi.rowLt hk).2)
    have e0 : ([] : List T).length = 0 := rfl
    rw [e0]
    clear hb hi hk e0
    unfold NodeV
    simp only [kind_mk, text_mk, num_mk, place_mk]
    go_enter Tryd.func40, Tryd.ntmps40
    go_wp2_with fail
    refine wp_loop_rounds 1 ?_
    rw [rounds_succ]
    go_wp2_with fail
    refine bodyPost_ret (v := .tuple #[]) (by simp [results, Tryd.results40]) rfl ?_
    exact ⟨rfl, v, HL0.out⟩

def BkRel (pb : Nat) (w0 : World) (v : Value) (is : List Ins) (n : Nat) (ks : List T) (g : Nat) (i : Value) (wr : World) : Prop :=
  ∃ (k : Nat) (V : Value), k ≤ ks.length ∧ ks.length ≤ k + g ∧ i = .int .i64 k ∧ Lay pb w0 v (is ++ stmtsI (blockI n) is.length (ks.take k)) wr V

set_option maxRecDepth 100000 in
set_option maxHeartbeats 2000000 in
theorem block_step {n : Nat} (ih : BlockOK n) : BlockOK (n + 1) := by
  intro w pb v is t kv hb hi hk hks hw hs hl
  have hlo := hb.lt
  have hvlt : ∀ k, v.ownBlock = some k → k < w.heap.size := fun k hk => (hi.rowLt hk).2
  have hkl := len_sizes t.kids
  cases t with
  | mk kd tx nm p ks =>
    have hks' : KindsAre isStmtK ks := hks
    have hw' : wholes ks := hw
    have hs' : sizes ks ≤ n + 1 := hs
    have hl' : is.length + 2 * sizes ks ≤ 80000 := hl
    have hkl' : ks.length ≤ sizes ks := hkl
    obtain ⟨w0, hw0, HL0, HN0, HK0, HB0, HZ0⟩ : ∃ w0 : World, w.alloc (.cells (nodeCells (.mk kd tx nm p ks) kv).toArray 25) = w0 ∧ Hid (Lay pb w0 v is w0 v) ∧ Hid (Blk w0 w.heap.size (nodeCells (.mk kd tx nm p ks) kv) 25) ∧ Hid (KAt 25 w0 ks (fun b => b < pb) kv) ∧ Hid (Below w.heap.size w w0) ∧ Hid (w.heap.size < w0.heap.size) :=
      ⟨_, rfl, Lib.hid (Lay.start (hb.alloc _) (hi.alloc _)), Lib.hid (Blk.new w _ _), Lib.hid (hk.alloc _), Lib.hid ((Below.refl _ _).alloc (Nat.le_refl _) _), Lib.hid (by simp)⟩
    have HBB := Lib.hid hb
    have HII := Lib.hid hi
    have HV := Lib.hid hvlt
    have HLO := Lib.hid hlo
    have HKS := Lib.hid hks'
    have HW := Lib.hid hw'
    have HSZ := Lib.hid hs'
    have HLL := Lib.hid hl'
    have HIH := Lib.hid ih
    have HST : Hid (BkRel pb w0 v is n ks ks.length (.int .i64 0) w0) := Lib.hid ⟨0, v, by omega, by omega, rfl, by simpa [stmtsI] using HL0.out⟩
    clear hb hi hks hw hs hl hks' hw' hs' hl' hlo hvlt ih
    have hk' : KAt 25 w ks (fun b => b < pb) kv := hk
    clear hk
    rcases hk'.form with ⟨rfl, hnil⟩ | ⟨g, cap, rfl, hg, hcap, hcm, _⟩
    · subst hnil
      refine (block_nil (p := p) (tx := tx) (nm := nm) (kd := kd) HBB.out HII.out hk').mono ?_
      rintro e w' ⟨h1, V, h2⟩
      refine ⟨h1, V, ?_⟩
      show Lay pb w v (is ++ stmtsI (blockI n) is.length []) w' V
      rw [stmtsI, List.append_nil]
      exact h2
    · clear hk'
      have HG := Lib.hid hg
      have HCAP := Lib.hid hcap
      clear hg hcap
      unfold maxLen at hcm
      have HGET : Hid (∀ W : World, KAt 25 W ks (fun b => b < pb) (.slice (some ⟨g, 0, none⟩) ks.length cap) → ∀ (k : Nat) (t : T), ks[k]? = some t → ∃ u, W.rangeAt g (k * 5) (nodeCells t u) ∧ TAt 25 W t (fun b => b < pb) u) := Lib.hid (by
        intro W hK k t hk
        rcases hK.form with ⟨h1, _⟩ | ⟨g', cap', h1, _, _, _, hget⟩
        · cases h1
        · cases h1
          exact hget k t hk)
      unfold NodeV
      simp only [kind_mk, text_mk, num_mk, place_mk]
      go_enter Tryd.func40, Tryd.ntmps40
      go_wp2_with fail
      go_loopg [9] ks.length (fun gh i wr => BkRel pb w0 v is n ks gh i wr)
      case atStart =>
        show BkRel pb w0 v is n ks ks.length (.int .i64 0) (w.alloc (.cells (nodeCells (.mk kd tx nm p ks) (.slice (some ⟨g, 0, none⟩) ks.length cap)).toArray 25))
        rw [hw0]
        exact HST.out
      case round =>
        obtain ⟨k, V, hk, hgk, rfl, hL⟩ := hrel
        clear HST
        have HLk := Lib.hid hL
        have hzw := hL.kp.size
        by_cases hlt : k < ks.length
        · have hne := List.getElem?_eq_getElem hlt
          obtain ⟨u, hr, hT⟩ := HGET.out _ (hL.kat HK0.out) k ks[k] hne
          have htk : ks.take (k + 1) = ks.take k ++ [ks[k]] := List.take_succ_eq_append_getElem hlt
          have hkk := HKS.out ks[k] (List.getElem_mem hlt)
          have hwk := wholes_mem HW.out (List.getElem_mem hlt)
          have hsk := sizes_take ks k ks[k] hne
          have hsle := sizes_take_le ks (k + 1)
          generalize ks[k] = tk at hr hT hne htk hkk hwk hsk
          have HR := Lib.hid hr
          have HTK := Lib.hid htk
          have HKK := Lib.hid hkk
          have HWK := Lib.hid hwk
          have HSK := Lib.hid hsk
          have HSLE := Lib.hid hsle
          have HOne := Lib.hid hT.kat.one
          have HKB := Lib.hid (Blk.new wr (nodeCells tk u) 25)
          have hwk2 : wholes (ks.take k) ∧ KindsAre isStmtK (ks.take k) := ⟨wholes_take k HW.out, fun t ht => HKS.out t (List.mem_of_mem_take ht)⟩
          have HLN := Lib.hid (blockI_length (n + 1) (ks.take k) (by have := HSZ.out; have := sizes_take_le ks k; omega) hwk2.2 hwk2.1 is.length)
          have HCL := Lib.hid (count_le.counts_le (ks.take k))
          have HL1 := Lib.hid (hL.below ((Below.refl _ _).alloc (Nat.le_refl _) (.cells (nodeCells tk u).toArray 25)))
          have HK1 := Lib.hid (hT.alloc (.cells (nodeCells tk u).toArray 25)).kat
          have hcap := HCAP.out
          clear hr hT hne htk hkk hwk hsk hsle hL hwk2
          go_wp2_with (first
            | ((with_reducible refine at_ld 25 (.tmp 11) ?_); refine wpList_load_mid rfl 25 (.tmp 11) rfl g (k * 5) rfl (nodeCells tk u) _ HR.out Tryd.underlying25 rfl Tryd.sizeNode ?_)
            | ((with_reducible refine at_st 25 (.tmp 5) ?_); refine wpList_store_new rfl 25 (.tmp 5) (.tmp 12) rfl (nodeCells tk u) (old := zeroNodeCells) rfl rfl Tryd.sizeNode rfl (nodeCells_one _ _ HOne.out) ?_)
            | ((with_reducible refine at_ld 25 (.tmp 5) ?_); refine wpList_load_blk rfl 25 (.tmp 5) rfl (wr.heap.size) (nodeCells tk u) rfl HKB.out Tryd.underlying25 rfl Tryd.sizeNode ?_))
          refine (stmt_any HIH.out HL1.out.blk HL1.out.ins HK1.out HWK.out HKK.out (by have := HSZ.out; have := HSK.out; have := HSLE.out; omega) ?_).mono ?_
          · have h1 := HLN.out
            have h2 := HCL.out
            have h3 := HSK.out
            have h4 := HSLE.out
            have h5 := HLL.out
            have h6 : (stmtsI (blockI n) is.length (ks.take k)).length = counts (ks.take k) := h1
            simp only [List.length_append]
            omega
          rintro e w3 ⟨rfl, V3, hl3⟩
          have HL3 := Lib.hid (HL1.out.trans hl3)
          clear hl3 HL1 HK1 HKB
          go_wp2_with fail
          go_roundg (gk - 1)
          case measure => omega
          case rel =>
            refine ⟨k + 1, V3, by omega, by omega, by go_num, ?_⟩
            have h := HL3.out
            rw [HTK.out, stmtsI_append, ← List.append_assoc]
            have e : stmtsI (blockI n) (is.length + (stmtsI (blockI n) is.length (ks.take k)).length) [tk] = stmtI (blockI n) (is ++ stmtsI (blockI n) is.length (ks.take k)).length tk := by
              rw [stmtsI, stmtsI, List.append_nil, List.length_append]
            rw [e]
            exact h
        · have hE : Lay pb w0 v (is ++ stmtsI (blockI n) is.length ks) wr V := by have := HLk.out; rwa [List.take_of_length_le (by omega)] at this
          have HE := Lib.hid (hE.back HB0.out HLO.out HV.out)
          clear hE hL
          go_wp2_with fail
          refine bodyPost_ret (v := .tuple #[]) (by simp [results, Tryd.results40]) rfl ?_
          exact ⟨rfl, V, HE.out⟩

theorem block_all : ∀ n : Nat, BlockOK n
  | 0 => by
    intro w pb v is t kv hb hi hk hks hw hs hl
    cases t with
    | mk kd tx nm p ks =>
      have hs' : sizes ks ≤ 0 := hs
      have h : ks = [] := by
        cases ks with
        | nil => rfl
        | cons a l => rw [sizes_cons] at hs'; cases a; rw [size_mk] at hs'; omega
      subst h
      refine (block_nil hb hi hk).mono ?_
      rintro e w' ⟨h1, V, h2⟩
      refine ⟨h1, V, ?_⟩
      show Lay pb w v (is ++ []) w' V
      rw [List.append_nil]
      exact h2
  | n + 1 => block_step (block_all n)
end

end Go.Proofs.YtnmpfpnldcgbaaaDoor
