/- The contract of shape's Types: the types of a tree, or the first fault, which its deferred function recovers. -/
import Derived.Test.YtdkdidgeaalcgaaDoorShpH
import Derived.Test.YtdkdidgeaalcgaaDoorShpQ
import Derived.Recover
namespace Go.Proofs.YtdkdidgeaalcgaaDoor
open Go.RowKit Go.Maps

theorem Tryd.sizeSFault : (Tryd.prog.info? 65).map (·.size) = some 2 := by kernel_rfl
theorem assert_sfault (v : Value) (w : World) : (Instr.typeAssert (.iface 65 v) 20 65 true).run Tryd.prog w = .ok (.tuple #[v, .bool true]) w := by
  simp [Instr.typeAssert, run_underlying Tryd.underlying65]

set_option maxRecDepth 100000 in
set_option maxHeartbeats 1000000 in
theorem scatch_panicking (fb : Nat) (p : Nat) (c : Int) (w : World) (hb : Blk w fb [.int .i64 0, .int .i64 0] 65) :
    CallsD Tryd.prog 26 #[.pointer (some ⟨fb, 0, none⟩)] (.panicking [{ v := sfV p c, recovered := false }]) w fun e u' w' =>
      e = .returned (.tuple #[]) ∧ u' = .panicking [{ v := sfV p c, recovered := true }] ∧ Blk w' fb [.int .i64 p, .int .i64 c] 65 ∧ w.grownBy w' (some fb) := by
  have HB := Lib.hid hb
  have hlt := hb.lt
  have hta := assert_sfault
  clear hb
  refine callsD_of_wpS Tryd.func26 rfl fun c₀ cs hu => ?_
  simp only [Tryd.ntmps26, List.size_toArray, List.length_cons, List.length_nil, Nat.reduceAdd, Nat.reduceSub, Array.replicate_succ, Array.replicate_zero, List.push_toArray, List.append_toArray, List.nil_append, List.cons_append]
  apply wpS_seq
  apply wpS_region
  unfold sfV at hu ⊢
  simp [wpOpsS, go_sem, recoverD, hu, Exit.thenS]
  refine wpS_of_wp ?_
  clear hu
  go_wp2_with ((with_reducible refine at_st 65 (.tmp 0) ?_); refine wpList_store_blk rfl 65 (.tmp 0) (.tmp 15) rfl fb [.int .i64 p, .int .i64 c] rfl rfl (HB.out.alloc _) Tryd.sizeSFault rfl (by simp [Value.oneCell']) ?_)
  refine ⟨rfl, _, rfl, .tuple #[], by simp [results, Tryd.results26], rfl, rfl, (HB.out.alloc _).rowSame [.int .i64 p, .int .i64 c], ?_⟩
  exact ⟨rfl, rfl, rfl, by simp, fun k hk hn => (setRow_other _ fb k _ (fun e => hn (by rw [e]))).trans (Below.heap_alloc w _ k hk)⟩

set_option maxRecDepth 100000 in
set_option maxHeartbeats 1000000 in
theorem scatch_idle (fb : Nat) (w : World) :
    CallsD Tryd.prog 26 #[.pointer (some ⟨fb, 0, none⟩)] .returning w fun e u' w' => e = .returned (.tuple #[]) ∧ u' = .returning ∧ w' = w := by
  refine callsD_of_wpS Tryd.func26 rfl fun c₀ cs hu => ?_
  simp only [Tryd.ntmps26, List.size_toArray, List.length_cons, List.length_nil, Nat.reduceAdd, Nat.reduceSub, Array.replicate_succ, Array.replicate_zero, List.push_toArray, List.append_toArray, List.nil_append, List.cons_append]
  apply wpS_seq
  apply wpS_region
  simp [wpOpsS, go_sem, recoverD, hu, Exit.thenS]
  refine wpS_of_wp ?_
  go_wp2_with fail
  refine ⟨rfl, .returning, ?_, .tuple #[], by simp [results, Tryd.results26], rfl, rfl, rfl⟩
  cases c₀
  simp_all

def SReadPost (w : World) (r : E (List Ty)) (e : Ending) (w' : World) : Prop :=
  match r with
  | .ok tys => ∃ v, e = .returned (.tuple #[v, .agg #[.int .i64 0, .int .i64 0]]) ∧ TysAt w' tys (fun b => w.heap.size ≤ b) v ∧ Below w.heap.size w w'
  | .error (p, c) => e = .returned (.tuple #[.slice none 0 0, .agg #[.int .i64 p, .int .i64 c]]) ∧ Below w.heap.size w w'

theorem results_tb {P : Program} {fn : Func} {s u : Tmp} {tz t' : TypeId} (h : fn.results = #[.tmp s, .cell u tz]) {tmps : Array Value} {W : World} {g' : Nat} {x : Value} {cs' : List Value} {d' : TypeDesc}
    (hs : tmps.getD s undef = x) (hu' : tmps.getD u undef = .pointer (some ⟨g', 0, none⟩)) (hb' : Blk W g' cs' t')
    (hz : P.underlying tz = some d') (hd' : d'.isRow = true) (hi' : (P.info? tz).map (·.size) = some cs'.length) : (results fn tmps).run P W = .ok (.tuple #[x, .agg cs'.toArray]) W := by
  have hl' := run_loadVar_mid (P := P) W g' 0 tz cs' d' (fun j v hj => by rw [Nat.zero_add, hb'.cell j]; exact hj) hz hd' hi'
  have h1 : tmps[s]?.getD undef = x := by rw [← hs]; simp
  have h2 : tmps[u]?.getD undef = .pointer (some ⟨g', 0, none⟩) := by rw [← hu']; simp
  simp [results, h, h1, h2, asAddr, hl']

/- The tree's Types are small. -/
def Declared (t : T) : Prop := ∀ x ∈ t.kids, DeclOk x
theorem typesF_err {tys : List Ty} {n : T} {r : List T} {e : Nat × Int} (hk : (n.kind == 1) = true) (h : oneP tys n = .error e) : typesF tys (n :: r) = .error e := by rw [typesF, hk, h]; rfl
theorem typesF_ok {tys : List Ty} {n : T} {r : List T} {x : Ty} (hk : (n.kind == 1) = true) (h : oneP tys n = .ok x) : typesF tys (n :: r) = typesF (tys ++ [x]) r := by rw [typesF, hk, h]; rfl
theorem typesF_no {tys : List Ty} {n : T} {r : List T} (hk : (n.kind == 1) = false) : typesF tys (n :: r) = typesF tys r := by rw [typesF, hk]; rfl
theorem kids_le {l : List T} {t : T} (h : t ∈ l) : t.kids.length ≤ sizes l := by
  induction l with
  | nil => simp at h
  | cons a l ih =>
    rw [sizes_cons]
    rcases List.mem_cons.1 h with rfl | h
    · have : t.size = 1 + sizes t.kids := by cases t; rw [size_mk]; rfl
      have h2 := len_sizes t.kids
      omega
    · have := ih h; omega

theorem RdSt.new (w : World) (na : List Value) : RdSt ((((w.alloc (.cells na.toArray 39)).alloc (.cells #[.int .i64 0, .int .i64 0] 65)).alloc (.map #[] 0)).alloc (.cells #[.slice none 0 0, .map (some (w.heap.size + 1 + 1))] 87)) (w.heap.size + 1 + 1) (w.heap.size + 1 + 1 + 1) (w.heap.size + 1 + 1) [] (.slice none 0 0) := by
  have e2 : ((w.alloc (.cells na.toArray 39)).alloc (.cells #[.int .i64 0, .int .i64 0] 65)).heap.size = w.heap.size + 1 + 1 := by simp
  have e3 : (((w.alloc (.cells na.toArray 39)).alloc (.cells #[.int .i64 0, .int .i64 0] 65)).alloc (.map #[] 0)).heap.size = w.heap.size + 1 + 1 + 1 := by simp
  refine ⟨?_, TysAt.nil _ _, ?_, ⟨by omega, by omega⟩, by omega⟩
  · have h := Blk.new (((w.alloc (.cells na.toArray 39)).alloc (.cells #[.int .i64 0, .int .i64 0] 65)).alloc (.map #[] 0)) [.slice none 0 0, .map (some (w.heap.size + 1 + 1))] 87
    rw [e3] at h
    exact h
  · have h := World.ownsMap_made (H := Unit) ((w.alloc (.cells na.toArray 39)).alloc (.cells #[.int .i64 0, .int .i64 0] 65)) Tryd.prog 9 (plainElem Tryd.prog 3)
    rw [e2] at h
    exact ⟨0, _, h.alloc _, by simp, ⟨[], rfl⟩, fun s => ⟨rfl, fun k hk => by simp [fndF] at hk⟩⟩

set_option maxRecDepth 100000 in
set_option maxHeartbeats 2000000 in
theorem sread_any {w : World} {t : T} {S : Nat → Prop} {kv : Value} (hk : KAt 39 w t.kids S kv) (hd : Declared t) (hz : t.size ≤ 4096) :
    Calls Tryd.prog 18 #[NodeV t kv] w (SReadPost w (typesF [] t.kids)) := by
  have hmf := makeFunc_run
  have hmm := @run_makeMap Tryd.prog
  have hts : t.size = 1 + sizes t.kids := by cases t; rw [size_mk]; rfl
  have hkl := len_sizes t.kids
  have HK := Lib.hid (show KAt 39 w t.kids (fun b => b < w.heap.size) kv from hk.keep fun b _ hb => ⟨hb, rfl⟩)
  have HD := Lib.hid hd
  have HTS := Lib.hid hts
  obtain ⟨ka, kc, rfl⟩ := hk.len
  obtain ⟨W0, hW0⟩ : ∃ W, (((w.alloc (.cells (nodeCells t (.slice ka t.kids.length kc)).toArray 39)).alloc (.cells #[.int .i64 0, .int .i64 0] 65)).alloc (.map #[] 0)).alloc (.cells #[.slice none 0 0, .map (some (w.heap.size + 1 + 1))] 87) = W := ⟨_, rfl⟩
  have HR0 := Lib.hid (show RdSt W0 (w.heap.size + 1 + 1) (w.heap.size + 1 + 1 + 1) (w.heap.size + 1 + 1) [] (.slice none 0 0) from hW0 ▸ RdSt.new w _)
  have HB0 := Lib.hid (show Below w.heap.size w W0 from hW0 ▸ (((((Below.refl _ _).alloc (Nat.le_refl _) _).alloc (by simp) _).alloc (by simp; omega) _).alloc (by simp; omega) _))
  have HF0 := Lib.hid (show Blk W0 (w.heap.size + 1) [.int .i64 0, .int .i64 0] 65 from hW0 ▸ ((Blk.new2 w _ _ _).alloc _).alloc _)
  have HN0 := Lib.hid (show Blk W0 w.heap.size (nodeCells t (.slice ka t.kids.length kc)) 39 from hW0 ▸ (((Blk.new w _ _).alloc _).alloc _).alloc _)
  have n4 : W0.cell? ⟨w.heap.size, 4, none⟩ = some (.slice ka t.kids.length kc) := HN0.out.cell 4
  unfold nodeCells at hW0
  unfold NodeV
  clear hk hd
  go_enter_defers Tryd.func18, Tryd.ntmps18
  go_wp2_with fail
  clear hmm hmf n4 hW0
  go_loopw [14] (fun i wr => ∃ k : Nat, k ≤ t.kids.length ∧ i = .int .i64 k ∧ ∃ tys tv, RdSt wr (w.heap.size + 1 + 1) (w.heap.size + 1 + 1 + 1) (w.heap.size + 1 + 1) tys tv ∧ Below (w.heap.size + 1 + 1) W0 wr ∧ tys.length ≤ k ∧ typesF [] t.kids = typesF tys (t.kids.drop k)) (fun i _ => t.kids.length - (intOf i).toNat)
  case atStart => exact ⟨0, by omega, rfl, [], _, HR0.out, Below.refl _ _, by simp, by rw [List.drop_zero]⟩
  case round =>
    obtain ⟨k, hkk, rfl, tys, tv, hst, hbw, htl, heq⟩ := hrel
    have HF := Lib.hid (show Blk wr (w.heap.size + 1) [.int .i64 0, .int .i64 0] 65 from (hbw.block _ (by omega)).trans HF0.out)
    have HB := Lib.hid (HB0.out.trans (hbw.mono (by omega)))
    have HBW := Lib.hid hbw
    have HST := Lib.hid hst
    have HEQ0 := Lib.hid heq
    have hsz : w.heap.size + 1 + 1 + 1 < wr.heap.size := hst.l.lt
    by_cases hlt : k < t.kids.length
    · obtain ⟨tk, htk⟩ : ∃ tk, t.kids[k]? = some tk := ⟨_, List.getElem?_eq_getElem hlt⟩
      obtain ⟨g, cap, hsl, hgl, hcap, hcm, hget⟩ := (HK.out.form).resolve_left fun h => by rw [h.2] at hlt; simp at hlt
      obtain ⟨rfl, rfl⟩ : ka = some ⟨g, 0, none⟩ ∧ kc = cap := by simpa using hsl
      obtain ⟨u, hr, hu⟩ := hget k tk htk
      have HR := Lib.hid (rangeAt_below hr HB.out hgl)
      have HEQ := Lib.hid (heq.trans (show _ = typesF tys (tk :: t.kids.drop (k + 1)) by rw [List.drop_eq_getElem_cons hlt, (List.getElem?_eq_some_iff.1 htk).2]))
      obtain ⟨W1, hW1⟩ : ∃ W, wr.alloc (.cells (nodeCells tk u).toArray 39) = W := ⟨_, rfl⟩
      have hb1 : Below wr.heap.size wr W1 := hW1 ▸ (Below.refl _ _).alloc (Nat.le_refl _) _
      have HB1 := Lib.hid (HB.out.trans (hb1.mono HB.out.size))
      have HBW1 := Lib.hid (HBW.out.trans (hb1.mono (by omega)))
      have HS1 := Lib.hid (hst.below hb1)
      have HF1 := Lib.hid (HF.out.stays hb1)
      have HB5 := Lib.hid (show Blk W1 wr.heap.size (nodeCells tk u) 39 from hW1 ▸ Blk.new wr _ _)
      have HU := Lib.hid (hu.kat.below HB1.out)
      have hu1 := hu.one'
      have hc0 : W1.cell? ⟨wr.heap.size, 0, none⟩ = some (.int .i64 tk.kind) := HB5.out.cell 0
      have HKL := Lib.hid (show tk.kids.length ≤ 4096 from by have := kids_le (List.mem_of_getElem? htk); omega)
      have HSM := Lib.hid (show (tk.kind == 1) = true → tk.text.size ≤ 16 ∧ (kidN (ptOf tk.kids).sort 0).text.size ≤ 16 from fun h => type_small (HD.out tk (List.mem_of_getElem? htk) (beq_iff_eq.1 h)))
      clear hget hr hu hst hsl htk heq hb1 hbw
      cases h1 : tk.kind == 1
      · have HN := Lib.hid (HEQ.out.trans (typesF_no h1))
        go_wp2_with (first
          | ((with_reducible refine at_ld 39 (.tmp 16) ?_); refine wpList_load_mid rfl 39 (.tmp 16) rfl g (k * 5) rfl (nodeCells tk u) _ HR.out Tryd.underlying39 rfl Tryd.sizeNode ?_)
          | ((with_reducible refine at_st 39 (.tmp 6) ?_); refine wpList_store_new rfl 39 (.tmp 6) (.tmp 17) rfl (nodeCells tk u) (old := zeroNodeCells) rfl rfl Tryd.sizeNode rfl (nodeCells_one _ _ hu1) ?_; rw [hW1]))
        go_roundw
        case rel => exact ⟨k + 1, by omega, by go_num, tys, tv, HS1.out, HBW1.out, by omega, HN.out⟩
        case measure => simp [intOf]; omega
      · have hsm := HSM.out h1
        have HAD := Lib.hid (addType_any HS1.out (t := tk) (kv := u) HU.out HKL.out (by omega) (by unfold maxLen; omega) (by unfold maxLen; omega))
        unfold NodeV at HAD
        have hb5 := HB5.out
        go_wp2_with (first
          | ((with_reducible refine at_ld 39 (.tmp 16) ?_); refine wpList_load_mid rfl 39 (.tmp 16) rfl g (k * 5) rfl (nodeCells tk u) _ HR.out Tryd.underlying39 rfl Tryd.sizeNode ?_)
          | ((with_reducible refine at_st 39 (.tmp 6) ?_); refine wpList_store_new rfl 39 (.tmp 6) (.tmp 17) rfl (nodeCells tk u) (old := zeroNodeCells) rfl rfl Tryd.sizeNode rfl (nodeCells_one _ _ hu1) ?_; rw [hW1])
          | ((with_reducible refine at_ld 39 (.tmp 6) ?_); refine wpList_load_blk rfl 39 (.tmp 6) rfl wr.heap.size (nodeCells tk u) rfl hb5 Tryd.underlying39 rfl Tryd.sizeNode ?_))
        refine HAD.out.mono ?_
        clear HAD hb5 hW1 hc0
        intro e w2 hp
        cases ho : oneP tys tk with
        | error pc =>
          obtain ⟨q, c⟩ := pc
          rw [ho] at hp
          obtain ⟨rfl, hb⟩ := hp
          have HRes := Lib.hid (HEQ.out.trans (typesF_err h1 ho))
          have HF2 := Lib.hid (show Blk w2 (w.heap.size + 1) [.int .i64 0, .int .i64 0] 65 from (hb.block _ (by omega)).trans HF1.out)
          have HB2 := Lib.hid (HB1.out.trans (hb.mono (by omega)))
          clear hb
          go_wp2_with fail
          refine leaves_cons (f := 26) (args := #[.pointer (some ⟨w.heap.size + 1, 0, none⟩)]) (by simp) (by simp [go_sem]) ?_
          refine (scatch_panicking (w.heap.size + 1) q c _ HF2.out).mono ?_
          rintro e u' w3 ⟨rfl, rfl, hb3, hg3⟩
          refine ⟨_, results_tb Tryd.results18 rfl rfl hb3 Tryd.underlying65 rfl Tryd.sizeSFault, ?_⟩
          rw [HRes.out]
          exact ⟨rfl, HB2.out.grown hg3 HB2.out.size (fun k hk => by cases hk; omega)⟩
        | ok x =>
          rw [ho] at hp
          obtain ⟨rfl, ⟨tv', hs⟩, hb⟩ := hp
          have HN := Lib.hid (HEQ.out.trans (typesF_ok h1 ho))
          have HS2 := Lib.hid hs
          have HB2 := Lib.hid (HBW1.out.trans hb)
          clear hs hb
          go_wp2_with fail
          go_roundw
          case rel => exact ⟨k + 1, by omega, by go_num, tys ++ [x], tv', HS2.out, HB2.out, by simp; omega, HN.out⟩
          case measure => simp [intOf]; omega
    · obtain rfl : k = t.kids.length := by omega
      have HRes := Lib.hid (show typesF [] t.kids = .ok tys by rw [heq, List.drop_length]; rfl)
      have l0 : wr.cell? ⟨w.heap.size + 1 + 1 + 1, 0, none⟩ = some tv := hst.l.cell 0
      have hf := HF.out
      clear heq hbw hst HEQ0
      go_wp2_with ((with_reducible refine at_st 65 (.tmp 3) ?_); refine wpList_store_blk rfl 65 (.tmp 3) (.tmp 29) rfl (w.heap.size + 1) [.int .i64 0, .int .i64 0] rfl rfl hf Tryd.sizeSFault rfl (by simp [Value.oneCell']) ?_)
      refine leaves_cons (f := 26) (args := #[.pointer (some ⟨w.heap.size + 1, 0, none⟩)]) (by simp) (by simp [go_sem]) ?_
      refine (scatch_idle (w.heap.size + 1) _).mono ?_
      rintro e u' w2 ⟨rfl, rfl, rfl⟩
      refine ⟨_, results_tb Tryd.results18 rfl rfl (hf.rowSame [.int .i64 0, .int .i64 0]) Tryd.underlying65 rfl Tryd.sizeSFault, ?_⟩
      rw [HRes.out]
      exact ⟨tv, rfl, HST.out.t.keep fun b hb _ => ⟨by omega, setRow_other _ _ _ _ (by omega)⟩, Below.row HB.out (by omega) _⟩

def TypesPost (w : World) (r : E (List Ty)) (e : Ending) (w' : World) : Prop :=
  match r with
  | .ok tys => ∃ v, e = .returned (.tuple #[v, .int .i64 0, .int .i64 0]) ∧ TysAt w' tys (fun b => w.heap.size ≤ b) v ∧ Below w.heap.size w w'
  | .error (p, c) => e = .returned (.tuple #[.slice none 0 0, .int .i64 p, .int .i64 c]) ∧ Below w.heap.size w w'
set_option maxRecDepth 100000 in
set_option maxHeartbeats 2000000 in
theorem types_any {w : World} {t : T} {S : Nat → Prop} {kv : Value} (hk : KAt 39 w t.kids S kv) (hd : Declared t) (hz : t.size ≤ 4096) :
    Calls Tryd.prog 13 #[NodeV t kv] w (TypesPost w (typesF [] t.kids)) := by
  obtain ⟨W0, hW0⟩ : ∃ W, w.alloc (.cells (nodeCells t kv).toArray 39) = W := ⟨_, rfl⟩
  have HB0 := Lib.hid (show Below w.heap.size w W0 from hW0 ▸ (Below.refl _ _).alloc (Nat.le_refl _) _)
  have hn := show Blk W0 w.heap.size (nodeCells t kv) 39 from hW0 ▸ Blk.new w _ _
  have HRD := Lib.hid (sread_any (hk.below HB0.out) hd hz)
  unfold nodeCells at hW0
  unfold NodeV at HRD ⊢
  clear hk
  go_enter Tryd.func13, Tryd.ntmps13
  go_wp2_with ((with_reducible refine at_ld 39 (.tmp 1) ?_); refine wpList_load_blk rfl 39 (.tmp 1) rfl w.heap.size (nodeCells t kv) rfl hn Tryd.underlying39 rfl Tryd.sizeNode ?_)
  refine HRD.out.mono ?_
  clear HRD hn hW0
  intro e w2 hp
  cases hr : typesF [] t.kids with
  | error pc =>
    obtain ⟨p, c⟩ := pc
    rw [hr] at hp
    obtain ⟨rfl, hb⟩ := hp
    have HB2 := Lib.hid (HB0.out.trans (hb.mono HB0.out.size))
    obtain ⟨W3, hW3⟩ : ∃ W, w2.alloc (.cells #[.int .i64 p, .int .i64 c] 65) = W := ⟨_, rfl⟩
    have HB3 := Lib.hid (show Below w.heap.size w W3 from hW3 ▸ HB2.out.alloc HB2.out.size _)
    have h3 := show Blk W3 w2.heap.size [.int .i64 p, .int .i64 c] 65 from hW3 ▸ Blk.new w2 _ _
    have c0 : W3.cell? ⟨w2.heap.size, 0, none⟩ = some (.int .i64 p) := h3.cell 0
    have c1 : W3.cell? ⟨w2.heap.size, 1, none⟩ = some (.int .i64 c) := h3.cell 1
    clear hb h3
    go_wp2_with fail
    try rw [hW3]
    clear hW3
    go_quiet (fail)
    go_wp2_with fail
    go_ret3
    unfold TypesPost
    rw [hr]
    exact ⟨rfl, below_nqS HB3.out _⟩
  | ok tys =>
    rw [hr] at hp
    obtain ⟨v, rfl, ht, hb⟩ := hp
    have HB2 := Lib.hid (HB0.out.trans (hb.mono HB0.out.size))
    obtain ⟨va, vn, vc, rfl⟩ : ∃ a n c, v = .slice a n c := ht.slice.elim fun a h => h.elim fun c h => ⟨a, _, c, h⟩
    obtain ⟨W3, hW3⟩ : ∃ W, w2.alloc (.cells #[.int .i64 0, .int .i64 0] 65) = W := ⟨_, rfl⟩
    have HB3 := Lib.hid (show Below w.heap.size w W3 from hW3 ▸ HB2.out.alloc HB2.out.size _)
    have h3 := show Blk W3 w2.heap.size [.int .i64 0, .int .i64 0] 65 from hW3 ▸ Blk.new w2 _ _
    have hz2 := HB2.out.size
    obtain ⟨W4, hW4⟩ : ∃ W, W3.setRow w2.heap.size [.int .i64 0, .int .i64 0].toArray = W := ⟨_, rfl⟩
    have h4 := show Blk W4 w2.heap.size [.int .i64 0, .int .i64 0] 65 from hW4 ▸ h3.rowSame _
    have HB4 := Lib.hid (show Below w.heap.size w W4 from hW4 ▸ Below.row HB3.out hz2 _)
    have HT4 := Lib.hid (show TysAt W4 tys (fun b => W0.heap.size ≤ b) (.slice va vn vc) from hW4 ▸ ht.keep fun b hb hl => ⟨hb, (setRow_other _ _ _ _ (by omega)).trans (by rw [← hW3]; exact Below.heap_alloc _ _ _ hl)⟩)
    have c0 : W4.cell? ⟨w2.heap.size, 0, none⟩ = some (.int .i64 0) := h4.cell 0
    have c1 : W4.cell? ⟨w2.heap.size, 1, none⟩ = some (.int .i64 0) := h4.cell 1
    clear hb ht h4
    go_wp2_with ((with_reducible refine at_st 65 (.tmp 6) ?_); refine wpList_store_blk rfl 65 (.tmp 6) (.tmp 11) rfl w2.heap.size [.int .i64 0, .int .i64 0] rfl rfl h3 Tryd.sizeSFault rfl (by simp [Value.oneCell']) ?_; rw [hW4])
    clear hW3 h3
    go_quiet (fail)
    go_wp2_with fail
    go_ret3
    unfold TypesPost
    rw [hr]
    exact ⟨_, rfl, HT4.out.keep fun b hb _ => ⟨by have := HB0.out.size; omega, rfl⟩, below_nqS HB4.out _⟩

end Go.Proofs.YtdkdidgeaalcgaaDoor
