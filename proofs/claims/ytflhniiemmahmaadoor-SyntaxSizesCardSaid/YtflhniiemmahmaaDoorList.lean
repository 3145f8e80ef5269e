/- The contracts of the parser's list and inParens, for whatever item they are handed: a method value of the parser whose contract is known. -/
import Derived.Test.YtflhniiemmahmaaDoorAppend
import Derived.Test.YtflhniiemmahmaaDoorTerm
import Derived.Deep.LoopGhost
namespace Go.Proofs.YtflhniiemmahmaaDoor
open Go.RowKit

/- A function of the parser that reads an item. -/
structure ItemC (E : Env) (d : Nat) (f : FuncId) (item : List Tok → R T) : Prop where
  enter : ∀ (args : Array Value) (w : World), (callFunc f args).run Tryd.prog w = .ok (.enter f args) w
  calls : ∀ {w : World} {l : List Tok}, PSt E w l d → Calls Tryd.prog f #[.pointer (some ⟨E.pb, 0, none⟩)] w (PPost VNode E w l d (item l))

def VKids' (W : World) (lo : Nat) (ks : List T) (v : Value) : Prop := KAt 25 W ks (fun b => lo ≤ b) v ∧ ks.length ≤ 16385

def ListRel (E : Env) (w : World) (l : List Tok) (d : Nat) (item : List Tok → R T) (g : Nat) (v : Value) (wr : World) : Prop :=
  ∃ (ks : List T) (lr : List Tok) (n : Nat), Run E w wr lr d ∧ KAt 25 wr ks (fun b => w.heap.size ≤ b) v ∧ listP item l = bd (listF item n lr) (fun xs l' => .ok (ks ++ xs, l')) ∧ lr.length ≤ n ∧ lr.length < l.length ∧ lr.length ≤ g ∧ ks.length + lr.length ≤ l.length

theorem bd_bd {α β γ : Type} (r : R α) (f : α → List Tok → R β) (g : β → List Tok → R γ) : bd (bd r f) g = bd r fun a l => bd (f a l) g := by
  cases r with
  | error e => rfl
  | ok q => rfl

theorem listF_no {item : List Tok → R T} {n : Nat} {l : List Tok} (hn : 0 < n) (h : isT (hdT l) (bs [44]) = false) : listF item n l = .ok ([], l) := by
  cases n with
  | zero => omega
  | succ n => unfold listF; rw [h]; rfl
theorem listF_yes {item : List Tok → R T} {n : Nat} {l : List Tok} (h : isT (hdT l) (bs [44]) = true) : listF item (n + 1) l = bd (item l.tail) fun a l => bd (listF item n l) fun xs l => .ok (a :: xs, l) := by
  rw [listF, h]; rfl

set_option maxRecDepth 100000 in
set_option maxHeartbeats 1000000 in
theorem list_any {E : Env} {w : World} {l : List Tok} {d : Nat} (h : PSt E w l d) {f : FuncId} {item : List Tok → R T} (hI : ItemC E d f item) :
    Calls Tryd.prog 73 #[.pointer (some ⟨E.pb, 0, none⟩), .func (.func f) #[.pointer (some ⟨E.pb, 0, none⟩)] #[]] w (PPost VKids' E w l d (listP item l)) := by
  have HR0 := Lib.hid (Run.start h)
  have HI := Lib.hid hI
  have hcf := fun w' => hI.enter #[.pointer (some ⟨E.pb, 0, none⟩)] w'
  have hlo := h.plt
  have hlt := h.tlt
  have hln := h.len
  have hle := h.le
  clear h hI
  obtain ⟨i0, z0, I⟩ := Tryd.nodeInfo
  go_enter Tryd.func73, Tryd.ntmps73
  go_wp2_with fail
  refine (HI.out.calls HR0.out.st).mono ?_
  intro e w1 hp
  cases hr : item l with
  | error pc =>
    obtain ⟨p, c⟩ := pc
    obtain ⟨rfl, hk, hcd⟩ := hp.err hr
    have HK := Lib.hid hk
    have HP := Lib.hid (show listP item l = .error (p, c) by unfold listP; exact bd_err hr _)
    clear hr hp hk
    go_wp2
    exact ⟨rfl, Run.err HK.out HP.out hcd⟩
  | ok q =>
    obtain ⟨a1, l1⟩ := q
    obtain ⟨v1, rfl, hv, hs, hl, hk⟩ := hp.ok hr
    obtain ⟨kv1, rfl, ht⟩ := hv
    have HT1 := Lib.hid ht
    have HR1 := Lib.hid (HR0.out.call hk hs)
    have HL1 := Lib.hid hl
    have H1 := Lib.hid hr
    clear hr hp hs hl hk ht
    unfold NodeV
    go_wp2_with fail
    go_loopg [5] l.length (fun g v wr => ListRel E w l d item g v wr)
    case atStart =>
      refine ⟨[a1], l1, l1.length, HR1.out.alloc _, KAt.lit1 HT1.out HR1.out.size, ?_, Nat.le_refl _, HL1.out, by have := HL1.out; omega, by have := HL1.out; simp; omega⟩
      unfold listP
      rw [bd_ok H1.out]
      rfl
    case round =>
      obtain ⟨ks, lr, n, hR, hK, hE, hn, hlr, hg, hcnt⟩ := hrel
      have HR := Lib.hid hR
      have HKA := Lib.hid hK
      have HE := Lib.hid hE
      have HN := Lib.hid hn
      have HLR := Lib.hid hlr
      have HG := Lib.hid hg
      have HC := Lib.hid hcnt
      have HP0 := Lib.hid hR.st.head.1
      clear hR hK hE hn hlr hg hcnt HR1 HT1 HL1 H1 HR0
      cases hi : isT (hdT lr) (bs [44]) with
      | false =>
        have HF := Lib.hid hi
        clear hi
        go_wp2_with fail
        refine (accept_no HR.out.st HF.out).mono ?_
        rintro e w2 ⟨rfl, hb⟩
        have HR2 := Lib.hid (HR.out.below hb)
        have HK2 := Lib.hid (HKA.out.below hb)
        clear hb
        have HP := Lib.hid (show listP item l = .ok (ks, lr) by rw [HE.out, bd_ok (listF_no (by have := HN.out; have := HP0.out; omega) HF.out)]; simp)
        go_wp2
        go_ret
        exact .mk_ok HP.out rfl ⟨HK2.out, by have := HC.out; omega⟩ HR2.out.st HLR.out HR2.out.kp
      | true =>
        have HF := Lib.hid hi
        clear hi
        obtain ⟨m, rfl⟩ : ∃ m, n = m + 1 := ⟨n - 1, by have := HN.out; have := HP0.out; omega⟩
        go_wp2_with fail
        refine (accept_yes HR.out.st HF.out (by decide)).mono ?_
        rintro e w2 ⟨rfl, hs, hk⟩
        have HR2 := Lib.hid (HR.out.call hk hs)
        have HK2 := Lib.hid (HKA.out.kp hk (fun b hb => by omega))
        clear hs hk
        go_wp2_with fail
        refine (HI.out.calls HR2.out.st).mono ?_
        intro e w3 hp
        cases hr : item lr.tail with
        | error pc =>
          obtain ⟨p, c⟩ := pc
          obtain ⟨rfl, hk, hcd⟩ := hp.err hr
          have HK := Lib.hid (HR2.out.kp.trans hk)
          have HP := Lib.hid (show listP item l = .error (p, c) by rw [HE.out, listF_yes HF.out, bd_err (bd_err hr _)])
          clear hr hp hk
          go_wp2
          exact ⟨rfl, Run.err HK.out HP.out hcd⟩
        | ok q =>
          obtain ⟨a3, l3⟩ := q
          obtain ⟨v3, rfl, hv, hs, hl, hk⟩ := hp.ok hr
          obtain ⟨kv3, rfl, ht⟩ := hv
          have HT3 := Lib.hid ht
          have HR3 := Lib.hid (HR2.out.call hk hs)
          have HK3 := Lib.hid (HK2.out.kp hk (fun b hb => by omega))
          have HL3 := Lib.hid hl
          have H3 := Lib.hid hr
          have HOB := Lib.hid (show ∀ g, u5.ownBlock = some g → g < w2.heap.size from fun g hg => by obtain ⟨_, ho, _⟩ := HK2.out; exact (ho.lt g hg).2)
          clear hr hp hs hl hk ht
          unfold NodeV
          go_wp2_with (at_builtin; refine wpList_append_trees rfl (.tmp 11) (.tmp 14) rfl I (ks := ks) (ts := [a3]) (S := fun b => w.heap.size ≤ b) rfl (HK3.out.alloc _) (us := [kv3]) (TsAt.single ?c1) ?c2 rfl rfl (by simp) (lit1_at w3 _ a3 kv3) ?c3 ?_)
          case c1 =>
            refine (HT3.out.alloc _).mono fun b hb _ => ⟨by have := HR2.out.size; omega, fun hbk => ?_⟩
            have := HOB.out b hbk
            omega
          case c2 => have := HR3.out.size; simp; omega
          case c3 => have := HC.out; simp; omega
          intro v' w4 hK4 hg4 hb4
          have HR4 := Lib.hid ((HR3.out.alloc _).grown hg4 (fun k hk => by obtain ⟨_, _, hS, _⟩ := HK3.out; exact hS k hk))
          have HK4 := Lib.hid hK4
          clear hK4 hg4 hb4
          go_wp2
          go_roundg (gk - 1)
          case measure => have := HG.out; have := HP0.out; omega
          case rel =>
            have h1 := HL3.out
            have h2 := HN.out
            have h3 := HLR.out
            have h4 := HG.out
            have h5 := HC.out
            have h6 := HP0.out
            simp only [List.length_tail] at h1
            refine ⟨ks ++ [a3], l3, m, HR4.out, HK4.out, ?_, by omega, by omega, by omega, by simp; omega⟩
            rw [HE.out, listF_yes HF.out, bd_bd, bd_ok H3.out, bd_bd]
            congr 1
            funext xs l'
            simp [bd]

set_option maxRecDepth 100000 in
set_option maxHeartbeats 1000000 in
theorem inParens_any {E : Env} {w : World} {l : List Tok} {d : Nat} (h : PSt E w l d) {f : FuncId} {item : List Tok → R T} (hI : ItemC E d f item) :
    Calls Tryd.prog 76 #[.pointer (some ⟨E.pb, 0, none⟩), .func (.func f) #[.pointer (some ⟨E.pb, 0, none⟩)] #[]] w (PPost VKids' E w l d (parensP item l)) := by
  have HR0 := Lib.hid (Run.start h)
  have HI := Lib.hid hI
  clear hI
  have hlo := h.plt
  have hlt := h.tlt
  have hln := h.len
  clear h
  go_enter Tryd.func76, Tryd.ntmps76
  go_wp2_with fail
  refine (expect_at HR0.out.st [bs [40]] (by decide) (by decide) (by simp) rfl rfl).mono ?_
  intro e w1 hp
  cases hr : expectP [bs [40]] l with
  | error pc =>
    obtain ⟨p, c⟩ := pc
    obtain ⟨rfl, hk, hcd⟩ := hp.err hr
    have HK := Lib.hid (HR0.out.kp.trans hk)
    have HP := Lib.hid (show parensP item l = .error (p, c) by unfold parensP; exact (bd_err hr _))
    clear hr hp hk
    go_wp2
    exact ⟨rfl, Run.err HK.out HP.out hcd⟩
  | ok q =>
    obtain ⟨a1, l1⟩ := q
    obtain ⟨v1, rfl, hv, hs, hl, hk⟩ := hp.ok hr
    obtain ⟨rfl, hto⟩ := hv
    have HR1 := Lib.hid (HR0.out.call hk hs)
    have hzR1 := HR1.out.size
    have HL1 := Lib.hid hl
    have H1 := Lib.hid hr
    clear hr hp hs hl hk hto
    unfold tokV
    cases hi : isT (hdT l1) (bs [41]) with
    | true =>
      have HIi := Lib.hid hi
      clear hi
      go_wp2_with fail
      refine (accept_yes HR1.out.st HIi.out (by decide)).mono ?_
      rintro e w2 ⟨rfl, hs, hk⟩
      have HR2 := Lib.hid (HR1.out.call hk hs)
      have hzR2 := HR2.out.size
      clear hs hk
      have HP := Lib.hid (show parensP item l = .ok ([], l1.tail) by unfold parensP; exact ((bd_ok H1.out _)).trans ((cond_t HIi.out _ _)))
      go_wp2
      go_ret
      exact .mk_ok HP.out rfl ⟨KAt.nil _ _ _, by simp⟩ HR2.out.st (by have := HL1.out; simp only [List.length_tail]; omega) HR2.out.kp
    | false =>
      have HIi := Lib.hid hi
      clear hi
      go_wp2_with fail
      refine (accept_no HR1.out.st HIi.out).mono ?_
      rintro e w2 ⟨rfl, hb⟩
      have HR2 := Lib.hid (HR1.out.below hb)
      have hzR2 := HR2.out.size
      clear hb
      go_wp2_with fail
      refine (list_any HR2.out.st HI.out).mono ?_
      intro e w3 hp
      cases hr : listP item l1 with
      | error pc =>
        obtain ⟨p, c⟩ := pc
        obtain ⟨rfl, hk, hcd⟩ := hp.err hr
        have HK := Lib.hid (HR2.out.kp.trans hk)
        have HP := Lib.hid (show parensP item l = .error (p, c) by unfold parensP; exact ((bd_ok H1.out _)).trans (((cond_f HIi.out _ _)).trans ((bd_err hr _))))
        clear hr hp hk
        go_wp2
        exact ⟨rfl, Run.err HK.out HP.out hcd⟩
      | ok q =>
        obtain ⟨a3, l3⟩ := q
        obtain ⟨v3, rfl, hv, hs, hl, hk⟩ := hp.ok hr
        have HT3 := Lib.hid hv.1
        have HC3 := Lib.hid hv.2
        have HR3 := Lib.hid (HR2.out.call hk hs)
        have hzR3 := HR3.out.size
        have HL3 := Lib.hid hl
        have H3 := Lib.hid hr
        clear hr hp hs hl hk hv
        go_wp2_with fail
        refine (expect_at HR3.out.st [bs [41]] (by decide) (by decide) (by simp) rfl rfl).mono ?_
        intro e w4 hp
        cases hr : expectP [bs [41]] l3 with
        | error pc =>
          obtain ⟨p, c⟩ := pc
          obtain ⟨rfl, hk, hcd⟩ := hp.err hr
          have HK := Lib.hid (HR3.out.kp.trans hk)
          have HP := Lib.hid (show parensP item l = .error (p, c) by unfold parensP; exact ((bd_ok H1.out _)).trans (((cond_f HIi.out _ _)).trans (((bd_ok H3.out _)).trans ((bd_err hr _)))))
          clear hr hp hk
          go_wp2
          exact ⟨rfl, Run.err HK.out HP.out hcd⟩
        | ok q =>
          obtain ⟨a4, l4⟩ := q
          obtain ⟨v4, rfl, hv, hs, hl, hk⟩ := hp.ok hr
          obtain ⟨rfl, hto⟩ := hv
          have HR4 := Lib.hid (HR3.out.call hk hs)
          have hzR4 := HR4.out.size
          have HT3_4 := Lib.hid (HT3.out.kp hk (fun b hb => by omega))
          have HL4 := Lib.hid hl
          have H4 := Lib.hid hr
          clear hr hp hs hl hk hto
          unfold tokV
          have HP := Lib.hid (show parensP item l = .ok (a3, l4) by unfold parensP; exact ((bd_ok H1.out _)).trans (((cond_f HIi.out _ _)).trans (((bd_ok H3.out _)).trans ((bd_ok H4.out _)))))
          go_wp2
          go_ret
          exact .mk_ok HP.out rfl ⟨HT3_4.out.mono (fun b hb _ => by have := HR2.out.size; omega), HC3.out⟩ HR4.out.st (by have := HL1.out; have := HL3.out; have := HL4.out; omega) HR4.out.kp

end Go.Proofs.YtflhniiemmahmaaDoor
