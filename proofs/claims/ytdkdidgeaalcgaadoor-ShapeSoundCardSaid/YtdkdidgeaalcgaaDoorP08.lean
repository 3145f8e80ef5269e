/- The contracts of the parser's list and inParens, for whatever item they are handed: a method value of the parser whose contract is known. The contracts of the parser's index, callOf, refBehind. -/
import Derived.Test.YtdkdidgeaalcgaaDoorP06
import Derived.Test.YtdkdidgeaalcgaaDoorP07
import Derived.Deep.LoopGhost
namespace Go.Proofs.YtdkdidgeaalcgaaDoor
section
open Go.RowKit

/- A function of the parser that reads an item. -/
structure ItemC (E : Env) (d : Nat) (f : FuncId) (item : List Tok → R T) : Prop where
  enter : ∀ (args : Array Value) (w : World), (callFunc f args).run Tryd.prog w = .ok (.enter f args) w
  calls : ∀ {w : World} {l : List Tok}, PSt E w l d → Calls Tryd.prog f #[.pointer (some ⟨E.pb, 0, none⟩)] w (PPost VNode E w l d (item l))

def VKids' (W : World) (lo : Nat) (ks : List T) (v : Value) : Prop := KAt 39 W ks (fun b => lo ≤ b) v ∧ ks.length ≤ 16385

def ListRel (E : Env) (w : World) (l : List Tok) (d : Nat) (item : List Tok → R T) (g : Nat) (v : Value) (wr : World) : Prop :=
  ∃ (ks : List T) (lr : List Tok) (n : Nat), Run E w wr lr d ∧ KAt 39 wr ks (fun b => w.heap.size ≤ b) v ∧ listP item l = bd (listF item n lr) (fun xs l' => .ok (ks ++ xs, l')) ∧ lr.length ≤ n ∧ lr.length < l.length ∧ lr.length ≤ g ∧ ks.length + lr.length ≤ l.length

theorem bd_bd {α β γ : Type} (r : R α) (f : α → List Tok → R β) (g : β → List Tok → R γ) : bd (bd r f) g = bd r fun a l => bd (f a l) g := by
  cases r with
  | error e => rfl
  | ok q => rfl

theorem listF_no {item : List Tok → R T} {n : Nat} {l : List Tok} (hn : 0 < n) (h : isT (hdT l) (bs [44]) = false) : listF item n l = .ok ([], l) := by
  cases n with
  | zero => omega
  | succ n => unfold listF; rw [h]; rfl
theorem listF_yes {item : List Tok → R T} {n : Nat} {l : List Tok} (h : isT (hdT l) (bs [44]) = true) : listF item (n + 1) l = bd (item l.tail) fun a l => bd (listF item n l) fun xs l => .ok (a :: xs, l) := by
  rw [listF, h]; rfl

set_option maxRecDepth 100000 in
set_option maxHeartbeats 1000000 in
theorem list_any {E : Env} {w : World} {l : List Tok} {d : Nat} (h : PSt E w l d) {f : FuncId} {item : List Tok → R T} (hI : ItemC E d f item) :
    Calls Tryd.prog 62 #[.pointer (some ⟨E.pb, 0, none⟩), .func (.func f) #[.pointer (some ⟨E.pb, 0, none⟩)] #[]] w (PPost VKids' E w l d (listP item l)) := by
  have HR0 := Lib.hid (Run.start h)
  have HI := Lib.hid hI
  have hcf := fun w' => hI.enter #[.pointer (some ⟨E.pb, 0, none⟩)] w'
  have hlo := h.plt
  have hlt := h.tlt
  have hln := h.len
  have hle := h.le
  clear h hI
  obtain ⟨i0, z0, I⟩ := Tryd.nodeInfo
  go_enter Tryd.func62, Tryd.ntmps62
  go_wp2_with fail
  refine (HI.out.calls HR0.out.st).mono ?_
  intro e w1 hp
  cases hr : item l with
  | error pc =>
    obtain ⟨p, c⟩ := pc
    obtain ⟨rfl, hk, hcd⟩ := hp.err hr
    have HK := Lib.hid hk
    have HP := Lib.hid (show listP item l = .error (p, c) by unfold listP; exact bd_err hr _)
    clear hr hp hk
    go_wp2
    exact ⟨rfl, Run.err HK.out HP.out hcd⟩
  | ok q =>
    obtain ⟨a1, l1⟩ := q
    obtain ⟨v1, rfl, hv, hs, hl, hk⟩ := hp.ok hr
    obtain ⟨kv1, rfl, ht⟩ := hv
    have HT1 := Lib.hid ht
    have HR1 := Lib.hid (HR0.out.call hk hs)
    have HL1 := Lib.hid hl
    have H1 := Lib.hid hr
    clear hr hp hs hl hk ht
    unfold NodeV
    go_wp2_with fail
    go_loopg [5] l.length (fun g v wr => ListRel E w l d item g v wr)
    case atStart =>
      refine ⟨[a1], l1, l1.length, HR1.out.alloc _, KAt.lit1 HT1.out HR1.out.size, ?_, Nat.le_refl _, HL1.out, by have := HL1.out; omega, by have := HL1.out; simp; omega⟩
      unfold listP
      rw [bd_ok H1.out]
      rfl
    case round =>
      obtain ⟨ks, lr, n, hR, hK, hE, hn, hlr, hg, hcnt⟩ := hrel
      have HR := Lib.hid hR
      have HKA := Lib.hid hK
      have HE := Lib.hid hE
      have HN := Lib.hid hn
      have HLR := Lib.hid hlr
      have HG := Lib.hid hg
      have HC := Lib.hid hcnt
      have HP0 := Lib.hid hR.st.head.1
      clear hR hK hE hn hlr hg hcnt HR1 HT1 HL1 H1 HR0
      cases hi : isT (hdT lr) (bs [44]) with
      | false =>
        have HF := Lib.hid hi
        clear hi
        go_wp2_with fail
        refine (accept_no HR.out.st HF.out).mono ?_
        rintro e w2 ⟨rfl, hb⟩
        have HR2 := Lib.hid (HR.out.below hb)
        have HK2 := Lib.hid (HKA.out.below hb)
        clear hb
        have HP := Lib.hid (show listP item l = .ok (ks, lr) by rw [HE.out, bd_ok (listF_no (by have := HN.out; have := HP0.out; omega) HF.out)]; simp)
        go_wp2
        go_ret
        exact .mk_ok HP.out rfl ⟨HK2.out, by have := HC.out; omega⟩ HR2.out.st HLR.out HR2.out.kp
      | true =>
        have HF := Lib.hid hi
        clear hi
        obtain ⟨m, rfl⟩ : ∃ m, n = m + 1 := ⟨n - 1, by have := HN.out; have := HP0.out; omega⟩
        go_wp2_with fail
        refine (accept_yes HR.out.st HF.out (by decide)).mono ?_
        rintro e w2 ⟨rfl, hs, hk⟩
        have HR2 := Lib.hid (HR.out.call hk hs)
        have HK2 := Lib.hid (HKA.out.kp hk (fun b hb => by omega))
        clear hs hk
        go_wp2_with fail
        refine (HI.out.calls HR2.out.st).mono ?_
        intro e w3 hp
        cases hr : item lr.tail with
        | error pc =>
          obtain ⟨p, c⟩ := pc
          obtain ⟨rfl, hk, hcd⟩ := hp.err hr
          have HK := Lib.hid (HR2.out.kp.trans hk)
          have HP := Lib.hid (show listP item l = .error (p, c) by rw [HE.out, listF_yes HF.out, bd_err (bd_err hr _)])
          clear hr hp hk
          go_wp2
          exact ⟨rfl, Run.err HK.out HP.out hcd⟩
        | ok q =>
          obtain ⟨a3, l3⟩ := q
          obtain ⟨v3, rfl, hv, hs, hl, hk⟩ := hp.ok hr
          obtain ⟨kv3, rfl, ht⟩ := hv
          have HT3 := Lib.hid ht
          have HR3 := Lib.hid (HR2.out.call hk hs)
          have HK3 := Lib.hid (HK2.out.kp hk (fun b hb => by omega))
          have HL3 := Lib.hid hl
          have H3 := Lib.hid hr
          have HOB := Lib.hid (show ∀ g, u5.ownBlock = some g → g < w2.heap.size from fun g hg => by obtain ⟨_, ho, _⟩ := HK2.out; exact (ho.lt g hg).2)
          clear hr hp hs hl hk ht
          unfold NodeV
          go_wp2_with (at_builtin; refine wpList_append_trees rfl (.tmp 11) (.tmp 14) rfl I (ks := ks) (ts := [a3]) (S := fun b => w.heap.size ≤ b) rfl (HK3.out.alloc _) (us := [kv3]) (TsAt.single ?c1) ?c2 rfl rfl (by simp) (lit1_at w3 _ a3 kv3) ?c3 ?_)
          case c1 =>
            refine (HT3.out.alloc _).mono fun b hb _ => ⟨by have := HR2.out.size; omega, fun hbk => ?_⟩
            have := HOB.out b hbk
            omega
          case c2 => have := HR3.out.size; simp; omega
          case c3 => have := HC.out; simp; omega
          intro v' w4 hK4 hg4 hb4
          have HR4 := Lib.hid ((HR3.out.alloc _).grown hg4 (fun k hk => by obtain ⟨_, _, hS, _⟩ := HK3.out; exact hS k hk))
          have HK4 := Lib.hid hK4
          clear hK4 hg4 hb4
          go_wp2
          go_roundg (gk - 1)
          case measure => have := HG.out; have := HP0.out; omega
          case rel =>
            have h1 := HL3.out
            have h2 := HN.out
            have h3 := HLR.out
            have h4 := HG.out
            have h5 := HC.out
            have h6 := HP0.out
            simp only [List.length_tail] at h1
            refine ⟨ks ++ [a3], l3, m, HR4.out, HK4.out, ?_, by omega, by omega, by omega, by simp; omega⟩
            rw [HE.out, listF_yes HF.out, bd_bd, bd_ok H3.out, bd_bd]
            congr 1
            funext xs l'
            simp [bd]

set_option maxRecDepth 100000 in
set_option maxHeartbeats 1000000 in
theorem inParens_any {E : Env} {w : World} {l : List Tok} {d : Nat} (h : PSt E w l d) {f : FuncId} {item : List Tok → R T} (hI : ItemC E d f item) :
    Calls Tryd.prog 65 #[.pointer (some ⟨E.pb, 0, none⟩), .func (.func f) #[.pointer (some ⟨E.pb, 0, none⟩)] #[]] w (PPost VKids' E w l d (parensP item l)) := by
  have HR0 := Lib.hid (Run.start h)
  have HI := Lib.hid hI
  clear hI
  have hlo := h.plt
  have hlt := h.tlt
  have hln := h.len
  clear h
  go_enter Tryd.func65, Tryd.ntmps65
  go_wp2_with fail
  refine (expect_at HR0.out.st [bs [40]] (by decide) (by decide) (by simp) rfl rfl).mono ?_
  intro e w1 hp
  cases hr : expectP [bs [40]] l with
  | error pc =>
    obtain ⟨p, c⟩ := pc
    obtain ⟨rfl, hk, hcd⟩ := hp.err hr
    have HK := Lib.hid (HR0.out.kp.trans hk)
    have HP := Lib.hid (show parensP item l = .error (p, c) by unfold parensP; exact (bd_err hr _))
    clear hr hp hk
    go_wp2
    exact ⟨rfl, Run.err HK.out HP.out hcd⟩
  | ok q =>
    obtain ⟨a1, l1⟩ := q
    obtain ⟨v1, rfl, hv, hs, hl, hk⟩ := hp.ok hr
    obtain ⟨rfl, hto⟩ := hv
    have HR1 := Lib.hid (HR0.out.call hk hs)
    have hzR1 := HR1.out.size
    have HL1 := Lib.hid hl
    have H1 := Lib.hid hr
    clear hr hp hs hl hk hto
    unfold tokV
    cases hi : isT (hdT l1) (bs [41]) with
    | true =>
      have HIi := Lib.hid hi
      clear hi
      go_wp2_with fail
      refine (accept_yes HR1.out.st HIi.out (by decide)).mono ?_
      rintro e w2 ⟨rfl, hs, hk⟩
      have HR2 := Lib.hid (HR1.out.call hk hs)
      have hzR2 := HR2.out.size
      clear hs hk
      have HP := Lib.hid (show parensP item l = .ok ([], l1.tail) by unfold parensP; exact ((bd_ok H1.out _)).trans ((cond_t HIi.out _ _)))
      go_wp2
      go_ret
      exact .mk_ok HP.out rfl ⟨KAt.nil _ _ _, by simp⟩ HR2.out.st (by have := HL1.out; simp only [List.length_tail]; omega) HR2.out.kp
    | false =>
      have HIi := Lib.hid hi
      clear hi
      go_wp2_with fail
      refine (accept_no HR1.out.st HIi.out).mono ?_
      rintro e w2 ⟨rfl, hb⟩
      have HR2 := Lib.hid (HR1.out.below hb)
      have hzR2 := HR2.out.size
      clear hb
      go_wp2_with fail
      refine (list_any HR2.out.st HI.out).mono ?_
      intro e w3 hp
      cases hr : listP item l1 with
      | error pc =>
        obtain ⟨p, c⟩ := pc
        obtain ⟨rfl, hk, hcd⟩ := hp.err hr
        have HK := Lib.hid (HR2.out.kp.trans hk)
        have HP := Lib.hid (show parensP item l = .error (p, c) by unfold parensP; exact ((bd_ok H1.out _)).trans (((cond_f HIi.out _ _)).trans ((bd_err hr _))))
        clear hr hp hk
        go_wp2
        exact ⟨rfl, Run.err HK.out HP.out hcd⟩
      | ok q =>
        obtain ⟨a3, l3⟩ := q
        obtain ⟨v3, rfl, hv, hs, hl, hk⟩ := hp.ok hr
        have HT3 := Lib.hid hv.1
        have HC3 := Lib.hid hv.2
        have HR3 := Lib.hid (HR2.out.call hk hs)
        have hzR3 := HR3.out.size
        have HL3 := Lib.hid hl
        have H3 := Lib.hid hr
        clear hr hp hs hl hk hv
        go_wp2_with fail
        refine (expect_at HR3.out.st [bs [41]] (by decide) (by decide) (by simp) rfl rfl).mono ?_
        intro e w4 hp
        cases hr : expectP [bs [41]] l3 with
        | error pc =>
          obtain ⟨p, c⟩ := pc
          obtain ⟨rfl, hk, hcd⟩ := hp.err hr
          have HK := Lib.hid (HR3.out.kp.trans hk)
          have HP := Lib.hid (show parensP item l = .error (p, c) by unfold parensP; exact ((bd_ok H1.out _)).trans (((cond_f HIi.out _ _)).trans (((bd_ok H3.out _)).trans ((bd_err hr _)))))
          clear hr hp hk
          go_wp2
          exact ⟨rfl, Run.err HK.out HP.out hcd⟩
        | ok q =>
          obtain ⟨a4, l4⟩ := q
          obtain ⟨v4, rfl, hv, hs, hl, hk⟩ := hp.ok hr
          obtain ⟨rfl, hto⟩ := hv
          have HR4 := Lib.hid (HR3.out.call hk hs)
          have hzR4 := HR4.out.size
          have HT3_4 := Lib.hid (HT3.out.kp hk (fun b hb => by omega))
          have HL4 := Lib.hid hl
          have H4 := Lib.hid hr
          clear hr hp hs hl hk hto
          unfold tokV
          have HP := Lib.hid (show parensP item l = .ok (a3, l4) by unfold parensP; exact ((bd_ok H1.out _)).trans (((cond_f HIi.out _ _)).trans (((bd_ok H3.out _)).trans ((bd_ok H4.out _)))))
          go_wp2
          go_ret
          exact .mk_ok HP.out rfl ⟨HT3_4.out.mono (fun b hb _ => by have := HR2.out.size; omega), HC3.out⟩ HR4.out.st (by have := HL1.out; have := HL3.out; have := HL4.out; omega) HR4.out.kp
end

section
open Go.RowKit

theorem termItem (E : Env) (d : Nat) : ItemC E d 78 termP := ⟨fun args w => run_enter Tryd.func78 (by kernel_rfl) (by kernel_rfl) args w, fun h => term_any h⟩

set_option maxRecDepth 100000 in
set_option maxHeartbeats 1000000 in
theorem index_any {E : Env} {w : World} {l : List Tok} {d : Nat} (h : PSt E w l d) :
    Calls Tryd.prog 89 #[.pointer (some ⟨E.pb, 0, none⟩)] w (PPost VNode E w l d (indexP l)) := by
  have HR0 := Lib.hid ((Run.start h).alloc (.cells zeroNodeCells.toArray 39))
  have HB0 := Lib.hid (Blk.new w zeroNodeCells 39)
  have hlo := h.plt
  have hlt := h.tlt
  have hln := h.len
  clear h
  go_enter Tryd.func89, Tryd.ntmps89
  go_wp2_with fail
  refine (expect_at HR0.out.st [bs [91]] (by decide) (by decide) (by simp) rfl rfl).mono ?_
  intro e w1 hp
  cases hr : expectP [bs [91]] l with
  | error pc =>
    obtain ⟨p, c⟩ := pc
    obtain ⟨rfl, hk, hcd⟩ := hp.err hr
    have HK := Lib.hid (HR0.out.kp.trans hk)
    have HP := Lib.hid (show indexP l = .error (p, c) by unfold indexP; exact (bd_err hr _))
    clear hr hp hk
    go_wp2
    exact ⟨rfl, Run.err HK.out HP.out hcd⟩
  | ok q =>
    obtain ⟨a1, l1⟩ := q
    obtain ⟨v1, rfl, hv, hs, hl, hk⟩ := hp.ok hr
    obtain ⟨rfl, hto⟩ := hv
    have HR1 := Lib.hid (HR0.out.call hk hs)
    have hzR1 := HR1.out.size
    have HB1 := Lib.hid (HB0.out.kp hk (by omega))
    have hzHB1 := HB1.out.lt
    have HL1 := Lib.hid hl
    have H1 := Lib.hid hr
    clear hr hp hs hl hk hto
    unfold tokV
    go_wp2_with fail
    refine (term_any HR1.out.st).mono ?_
    intro e w2 hp
    cases hr : termP l1 with
    | error pc =>
      obtain ⟨p, c⟩ := pc
      obtain ⟨rfl, hk, hcd⟩ := hp.err hr
      have HK := Lib.hid (HR1.out.kp.trans hk)
      have HP := Lib.hid (show indexP l = .error (p, c) by unfold indexP; exact ((bd_ok H1.out _)).trans ((bd_err hr _)))
      clear hr hp hk
      go_wp2
      exact ⟨rfl, Run.err HK.out HP.out hcd⟩
    | ok q =>
      obtain ⟨a2, l2⟩ := q
      obtain ⟨v2, rfl, hv, hs, hl, hk⟩ := hp.ok hr
      obtain ⟨kv2, rfl, ht⟩ := hv
      have HT2 := Lib.hid (ht.weak HB1.out.lt)
      have HR2 := Lib.hid (HR1.out.call hk hs)
      have hzR2 := HR2.out.size
      have HB2 := Lib.hid (HB1.out.kp hk (by omega))
      have hzHB2 := HB2.out.lt
      have HL2 := Lib.hid hl
      have H2 := Lib.hid hr
      clear hr hp hs hl hk ht
      unfold NodeV
      go_wp2_with ((with_reducible refine at_st 39 (.tmp 3) ?_); refine wpList_store_new rfl 39 (.tmp 3) (.tmp 8) rfl (nodeCells (a2) (kv2)) (old := zeroNodeCells) rfl rfl Tryd.sizeNode rfl (nodeCells_one _ _ HT2.out.kat.one) ?_)
      go_wp2_with fail
      refine (expect_at (HR2.out.alloc _).st [bs [93]] (by decide) (by decide) (by simp) rfl rfl).mono ?_
      intro e w3 hp
      cases hr : expectP [bs [93]] l2 with
      | error pc =>
        obtain ⟨p, c⟩ := pc
        obtain ⟨rfl, hk, hcd⟩ := hp.err hr
        have HK := Lib.hid ((HR2.out.alloc _).kp.trans hk)
        have HP := Lib.hid (show indexP l = .error (p, c) by unfold indexP; exact ((bd_ok H1.out _)).trans (((bd_ok H2.out _)).trans ((bd_err hr _))))
        clear hr hp hk
        go_wp2
        exact ⟨rfl, Run.err HK.out HP.out hcd⟩
      | ok q =>
        obtain ⟨a3, l3⟩ := q
        obtain ⟨v3, rfl, hv, hs, hl, hk⟩ := hp.ok hr
        obtain ⟨rfl, hto⟩ := hv
        have HR3 := Lib.hid ((HR2.out.alloc _).call hk hs)
        have hzR3 := HR3.out.size
        have HB3 := Lib.hid ((HB2.out.alloc _).kp hk (by omega))
        have hzHB3 := HB3.out.lt
        have HN3 := Lib.hid ((Blk.new w2 (nodeCells (a2) (kv2)) 39).kp hk (by first | omega | (have := HR0.out.size; simp at *; omega)))
        have hzHN3 := HN3.out.lt
        have HT2_3 := Lib.hid ((HT2.out.alloc _).kp hk (fun b hb => by omega))
        have HL3 := Lib.hid hl
        have H3 := Lib.hid hr
        clear hr hp hs hl hk hto
        unfold tokV
        have HP := Lib.hid (show indexP l = .ok (a2, l3) by unfold indexP; exact ((bd_ok H1.out _)).trans (((bd_ok H2.out _)).trans ((bd_ok H3.out _))))
        go_wp2_with (first | ((with_reducible refine at_ld 39 (.tmp 3) ?_); refine wpList_load_blk rfl 39 (.tmp 3) rfl w2.heap.size (nodeCells (a2) (kv2)) rfl (show Blk _ w2.heap.size (nodeCells (a2) (kv2)) 39 from HN3.out) Tryd.underlying39 rfl Tryd.sizeNode ?_) | ((with_reducible refine at_st 39 (.tmp 2) ?_); refine wpList_store_blk rfl 39 (.tmp 2) (.tmp 12) rfl w.heap.size (nodeCells (a2) (kv2)) rfl rfl HB3.out Tryd.sizeNode rfl (nodeCells_one _ _ HT2.out.kat.one) ?_))
        exact ret_blk (cs := nodeCells (a2) (kv2)) Tryd.results89 rfl HB3.out Tryd.underlying39 rfl Tryd.sizeNode rfl (Run.node HR3.out HT2_3.out.lo HP.out (by have := HL1.out; have := HL2.out; have := HL3.out; first | omega | (simp only [List.length_tail] at *; omega)))

set_option maxRecDepth 100000 in
set_option maxHeartbeats 1000000 in
theorem refBehind_any {E : Env} {w : World} {l : List Tok} {d : Nat} (h : PSt E w l d) (pl : Nat) :
    Calls Tryd.prog 91 #[.pointer (some ⟨E.pb, 0, none⟩), .int .i64 pl] w (PPost VNode E w l d (refP pl l)) := by
  have HR0 := Lib.hid ((Run.start h).alloc (.cells zeroNodeCells.toArray 39))
  have HB0 := Lib.hid (Blk.new w zeroNodeCells 39)
  have HL0 := Lib.hid (tail_lt h)
  have hlo := h.plt
  have hlt := h.tlt
  have hln := h.len
  clear h
  go_enter Tryd.func91, Tryd.ntmps91
  cases hi : isT (hdT l) (bs [109, 117, 116]) with
  | false =>
    have HIi := Lib.hid hi
    clear hi
    go_wp2_with fail
    refine (accept_no HR0.out.st HIi.out).mono ?_
    rintro e w1 ⟨rfl, hb⟩
    have HR1 := Lib.hid (HR0.out.below hb)
    have hzR1 := HR1.out.size
    have HB1 := Lib.hid (HB0.out.kp (Kp.of_below (pb := E.pb) hb) (by omega))
    have hzHB1 := HB1.out.lt
    clear hb
    go_wp2_with fail
    refine (name_any HR1.out.st).mono ?_
    intro e w2 hp
    cases hr : nameP l with
    | error pc =>
      obtain ⟨p, c⟩ := pc
      obtain ⟨rfl, hk, hcd⟩ := hp.err hr
      have HK := Lib.hid (HR1.out.kp.trans hk)
      have HP := Lib.hid (show refP pl l = .error (p, c) by unfold refP; exact ((cond_f HIi.out _ _)).trans ((bd_err hr _)))
      clear hr hp hk
      go_wp2
      exact ⟨rfl, Run.err HK.out HP.out hcd⟩
    | ok q =>
      obtain ⟨a2, l2⟩ := q
      obtain ⟨v2, rfl, hv, hs, hl, hk⟩ := hp.ok hr
      obtain rfl : v2 = .string a2 := hv
      have HR2 := Lib.hid (HR1.out.call hk hs)
      have hzR2 := HR2.out.size
      have HB2 := Lib.hid (HB1.out.kp hk (by omega))
      have hzHB2 := HB2.out.lt
      have HL2 := Lib.hid hl
      have H2 := Lib.hid hr
      clear hr hp hs hl hk 
      have HP := Lib.hid (show refP pl l = .ok (T.mk 26 a2 0 pl [], l2) by unfold refP; exact ((cond_f HIi.out _ _)).trans ((bd_ok H2.out _)))
      go_wp2_with ((with_reducible refine at_st 39 (.tmp 4) ?_); refine wpList_store_blk rfl 39 (.tmp 4) (.tmp 12) rfl w.heap.size (nodeCells (T.mk 26 a2 0 pl []) (.slice none 0 0)) rfl rfl HB2.out Tryd.sizeNode rfl (nodeCells_one _ _ rfl) ?_)
      exact ret_blk (cs := nodeCells (T.mk 26 a2 0 pl []) (.slice none 0 0)) Tryd.results91 rfl HB2.out Tryd.underlying39 rfl Tryd.sizeNode rfl (Run.node HR2.out ((KAt.nil _ _ _).tat _ _ _ _) HP.out (by have := HL0.out; have := HL2.out; first | omega | (simp only [List.length_tail] at *; omega)))
  | true =>
    have HIi := Lib.hid hi
    clear hi
    go_wp2_with fail
    refine (accept_yes HR0.out.st HIi.out (by decide)).mono ?_
    rintro e w1 ⟨rfl, hs, hk⟩
    have HR1 := Lib.hid (HR0.out.call hk hs)
    have hzR1 := HR1.out.size
    have HB1 := Lib.hid (HB0.out.kp hk (by omega))
    have hzHB1 := HB1.out.lt
    clear hs hk
    go_wp2_with fail
    refine (name_any HR1.out.st).mono ?_
    intro e w2 hp
    cases hr : nameP l.tail with
    | error pc =>
      obtain ⟨p, c⟩ := pc
      obtain ⟨rfl, hk, hcd⟩ := hp.err hr
      have HK := Lib.hid (HR1.out.kp.trans hk)
      have HP := Lib.hid (show refP pl l = .error (p, c) by unfold refP; exact ((cond_t HIi.out _ _)).trans ((bd_err hr _)))
      clear hr hp hk
      go_wp2
      exact ⟨rfl, Run.err HK.out HP.out hcd⟩
    | ok q =>
      obtain ⟨a2, l2⟩ := q
      obtain ⟨v2, rfl, hv, hs, hl, hk⟩ := hp.ok hr
      obtain rfl : v2 = .string a2 := hv
      have HR2 := Lib.hid (HR1.out.call hk hs)
      have hzR2 := HR2.out.size
      have HB2 := Lib.hid (HB1.out.kp hk (by omega))
      have hzHB2 := HB2.out.lt
      have HL2 := Lib.hid hl
      have H2 := Lib.hid hr
      clear hr hp hs hl hk 
      have HP := Lib.hid (show refP pl l = .ok (T.mk 27 a2 0 pl [], l2) by unfold refP; exact ((cond_t HIi.out _ _)).trans ((bd_ok H2.out _)))
      go_wp2_with ((with_reducible refine at_st 39 (.tmp 4) ?_); refine wpList_store_blk rfl 39 (.tmp 4) (.tmp 12) rfl w.heap.size (nodeCells (T.mk 27 a2 0 pl []) (.slice none 0 0)) rfl rfl HB2.out Tryd.sizeNode rfl (nodeCells_one _ _ rfl) ?_)
      exact ret_blk (cs := nodeCells (T.mk 27 a2 0 pl []) (.slice none 0 0)) Tryd.results91 rfl HB2.out Tryd.underlying39 rfl Tryd.sizeNode rfl (Run.node HR2.out ((KAt.nil _ _ _).tat _ _ _ _) HP.out (by have := HL0.out; have := HL2.out; first | omega | (simp only [List.length_tail] at *; omega)))

set_option maxRecDepth 100000 in
set_option maxHeartbeats 1000000 in
theorem callOf_any {E : Env} {w : World} {l : List Tok} {d : Nat} (h : PSt E w l d) (n : T) (sa : Option Addr) (sn sc : Nat) :
    Calls Tryd.prog 88 #[.pointer (some ⟨E.pb, 0, none⟩), NodeV n (.slice sa sn sc)] w (PPost VNode E w l d (callP n l)) := by
  have HR0 := Lib.hid (((Run.start h).alloc (.cells (nodeCells n (.slice sa sn sc)).toArray 39)).alloc (.cells zeroNodeCells.toArray 39))
  have HC0 := Lib.hid ((Blk.new w (nodeCells n (.slice sa sn sc)) 39).alloc (.cells zeroNodeCells.toArray 39))
  have HB0 := Lib.hid (Blk.new2 w (.cells (nodeCells n (.slice sa sn sc)).toArray 39) zeroNodeCells 39)
  have hlo := h.plt
  have hlt := h.tlt
  have hln := h.len
  clear h
  unfold NodeV
  have hmf := makeFunc_run
  go_enter Tryd.func88, Tryd.ntmps88
  go_wp2_with fail
  refine AnyE.begin2 (S := fun W => Blk W w.heap.size (nodeCells n (.slice sa sn sc)) 39) (by kernel_rfl) (HC0.out.drew) (fun hS => ?_)
  refine AnyE.take (i := 0) (v := .pointer (some ⟨w.heap.size, 1, none⟩)) rfl (by kernel_rfl) (by kernel_rfl) (by kernel_rfl) (by kernel_rfl) (fun _ _ _ h => h) (Or.inl ⟨by rfl, fun W _ => by go_simp⟩) hS ?_
  refine AnyE.take (i := 1) (v := .string n.text) rfl (by kernel_rfl) (by kernel_rfl) (by kernel_rfl) (by kernel_rfl) (fun _ _ _ h => h) (Or.inl ⟨by rfl, fun W hW => by have hcx : W.cell? ⟨w.heap.size, 1, none⟩ = some (.string n.text) := hW.cell 1; go_simp⟩) hS ?_
  refine AnyE.take (i := 2) (v := .pointer (some ⟨w.heap.size, 3, none⟩)) rfl (by kernel_rfl) (by kernel_rfl) (by kernel_rfl) (by kernel_rfl) (fun _ _ _ h => h) (Or.inl ⟨by rfl, fun W _ => by go_simp⟩) hS ?_
  refine AnyE.take (i := 3) (v := .int .i64 n.place) rfl (by kernel_rfl) (by kernel_rfl) (by kernel_rfl) (by kernel_rfl) (fun _ _ _ h => h) (Or.inl ⟨by rfl, fun W hW => by have hcx : W.cell? ⟨w.heap.size, 3, none⟩ = some (.int .i64 n.place) := hW.cell 3; go_simp⟩) hS ?_
  refine AnyE.take (i := 4) (v := .pointer (some ⟨E.pb, 0, none⟩)) rfl (by kernel_rfl) (by kernel_rfl) (by kernel_rfl) (by kernel_rfl) (fun _ _ _ h => h) (Or.inl ⟨by rfl, fun W _ => by go_simp⟩) hS ?_
  refine AnyE.take (i := 5) (v := .pointer (some ⟨E.pb, 0, none⟩)) rfl (by kernel_rfl) (by kernel_rfl) (by kernel_rfl) (by kernel_rfl) (fun _ _ _ h => h) (Or.inl ⟨by rfl, fun W _ => by go_simp⟩) hS ?_
  refine AnyE.take (i := 6) (v := .func (.func 78) #[.pointer (some ⟨E.pb, 0, none⟩)] #[]) rfl (by kernel_rfl) (by kernel_rfl) (by kernel_rfl) (by kernel_rfl) (fun _ _ _ h => h) (Or.inl ⟨by rfl, fun W _ => by go_simp⟩) hS ?_
  refine AnyE.one (i := 7) (by kernel_rfl) rfl (by rfl) (fun K hK => ?_)
  go_simp
  refine (inParens_any (HR0.out.drew).st (termItem E d)).mono ?_
  intro e w1 hp
  cases hr : parensP termP l with
  | error pc =>
    obtain ⟨p, c⟩ := pc
    obtain ⟨rfl, hk, hcd⟩ := hp.err hr
    have HK := Lib.hid ((HR0.out.drew).kp.trans hk)
    have HP := Lib.hid (show callP n l = .error (p, c) by unfold callP; exact (bd_err hr _))
    clear hr hp hk
    go_wp2
    exact ⟨rfl, Run.err HK.out HP.out hcd⟩
  | ok q =>
    obtain ⟨a1, l1⟩ := q
    obtain ⟨v1, rfl, hv, hs, hl, hk⟩ := hp.ok hr
    have HT1 := Lib.hid (hv.1.weak (HB0.out.drew).lt)
    have HC1 := Lib.hid hv.2
    obtain ⟨sa1, sn1, sc1, rfl⟩ := HT1.out.slice
    have HR1 := Lib.hid ((HR0.out.drew).call hk hs)
    have hzR1 := HR1.out.size
    have HB1 := Lib.hid ((HB0.out.drew).kp hk (by omega))
    have hzHB1 := HB1.out.lt
    have HC_1 := Lib.hid ((HC0.out.drew).kp hk (by first | omega | (have := HR0.out.size; simp at *; omega)))
    have hzHC_1 := HC_1.out.lt
    have HL1 := Lib.hid hl
    have H1 := Lib.hid hr
    clear hr hp hs hl hk hv
    refine hK.out _ _ (fun _ => HC_1.out) ?_
    clear hK K
    refine AnyE.one (i := 8) (by kernel_rfl) rfl (by rfl) (fun K hK => ?_)
    go_simp
    refine hK.out _ _ (fun _ => HC_1.out) ?_
    clear hK K
    have HP := Lib.hid (show callP n l = .ok (T.mk 28 n.text 0 n.place a1, l1) by unfold callP; exact (bd_ok H1.out _))
    refine AnyE.one (i := 9) (by kernel_rfl) rfl (by rfl) (fun K hK => ?_)
    refine wp_store_blk 39 (.tmp 4) (.tmp 13) rfl (w.heap.size + 1) (nodeCells (T.mk 28 n.text 0 n.place a1) (.slice sa1 sn1 sc1)) rfl rfl HB1.out Tryd.sizeNode rfl (nodeCells_one _ _ rfl) ?_
    refine hK.out _ _ (fun h => absurd rfl h) ?_
    clear hK K
    refine AnyE.done (by kernel_rfl) ?_ _
    go_wp2
    exact ret_blk0 (cs := nodeCells (T.mk 28 n.text 0 n.place a1) (.slice sa1 sn1 sc1)) Tryd.results88 rfl HB1.out Tryd.underlying39 rfl Tryd.sizeNode rfl (Run.nodeAt (by omega) HR1.out (HT1.out.lo.tat _ _ _ _) HP.out (by have := HL1.out; first | omega | (simp only [List.length_tail] at *; omega)))
end

end Go.Proofs.YtdkdidgeaalcgaaDoor
