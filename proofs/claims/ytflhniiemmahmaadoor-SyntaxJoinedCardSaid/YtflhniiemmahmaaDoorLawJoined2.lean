/- Proved here: for every two texts that lychgatelaw02.SyntaxJoined is called with, in every memory in which lex's tables stand as the program's text lays them, the call returns true and the texts read as before. Conditions: the package-level tables lex.keys, lex.blanks and lex.pairs hold what their initialisers lay (the card ties them to the program's text). Two texts that are read, one behind the other, are read as the declarations of both. Nothing of the program is walked here. -/
import Derived.Test.YtflhniiemmahmaaDoorFault
import Derived.Test.YtflhniiemmahmaaDoorWakes2
import Derived.Test.YtflhniiemmahmaaDoorToks
import Derived.Test.YtflhniiemmahmaaDoorAlike
import Derived.Test.YtflhniiemmahmaaDoorKids
import Derived.Test.YtflhniiemmahmaaDoorTabs2
namespace Go.Proofs.YtflhniiemmahmaaDoor
open Go.RowKit Go.ChangeShapes Go.WideShapes Go.ChangeAt

theorem Al.true : ∀ c : List Tok, Al (fun _ _ => True) c c
  | [] => .nil
  | _ :: c => .cons ⟨rfl, rfl, rfl, trivial⟩ (Al.true c)
theorem Al.trueShift (n : Nat) : ∀ c : List Tok, Al (fun _ _ => True) c (c.map (shiftTok n))
  | [] => .nil
  | _ :: c => .cons ⟨rfl, rfl, rfl, trivial⟩ (Al.trueShift n c)

mutual
theorem TR.refl1 : ∀ t : T, TR (fun _ _ => True) t t
  | .mk _ _ _ _ ks => TR.mk trivial (TsR.refl1 ks)
theorem TsR.refl1 : ∀ ts : List T, TsR (fun _ _ => True) ts ts
  | [] => .nil
  | t :: ts => .cons (TR.refl1 t) (TsR.refl1 ts)
end
mutual
theorem TR.trans1 : ∀ {t u v : T}, TR (fun _ _ => True) t u → TR (fun _ _ => True) u v → TR (fun _ _ => True) t v
  | .mk _ _ _ _ ks, u, v, h, h' => by
    have hk : TsR (fun _ _ => True) ks v.kids := TsR.trans1 (show TsR _ ks u.kids from h.kids) h'.kids
    exact TR.of (h.kind.trans h'.kind) (h.text.trans h'.text) (h.num.trans h'.num) trivial hk
theorem TsR.trans1 : ∀ {ts us vs : List T}, TsR (fun _ _ => True) ts us → TsR (fun _ _ => True) us vs → TsR (fun _ _ => True) ts vs
  | [], us, vs, h, h' => by unfold TsR at h; subst h; exact h'
  | t :: ts, us, vs, h, h' => by
    unfold TsR at h
    obtain ⟨u, us', rfl, h1, h2⟩ := h
    unfold TsR at h'
    obtain ⟨v, vs', rfl, h3, h4⟩ := h'
    exact .cons (TR.trans1 h1 h3) (TsR.trans1 h2 h4)
end
theorem tok_kind0 {l : List UInt8} {kd n v : Nat} (h : tokL l = .ok (kd, n, v)) : kd ≠ 0 := by
  unfold tokL at h
  split at h
  · unfold wordL at h
    split at h
    · cases h
    · split at h <;> (cases h; decide)
  · split at h
    · unfold numL at h
      split at h
      · cases h
      · cases h; decide
    · unfold signL at h
      split at h
      · cases h; decide
      · split at h <;> cases h
        decide
theorem parse_unit {s : ByteArray} {xs : List T} {p : Nat} (h : parseB s = (.mk 0 e0 0 0 xs, p, 0)) : ∃ ts, lexAll s = .ok ts ∧ ∃ k, unitF (ts.length + 1) ts = .ok (xs, k) := by
  cases hl : lexAll s with
  | error q =>
    obtain ⟨k, c⟩ := q
    rw [parseB_err hl] at h
    exfalso
    have hc : 10 ≤ c ∧ c ≤ 13 := by
      unfold lexAll at hl
      split at hl
      · cases hl; decide
      · have := tokAt_err (lex_fault 0 hl).2.2.2.2
        omega
    simp only [Prod.mk.injEq] at h
    omega
  | ok ts =>
    refine ⟨ts, rfl, ?_⟩
    rw [parseB_ok hl] at h
    unfold parseToks unitP at h
    cases hu : unitF (ts.length + 1) ts with
    | error q =>
      obtain ⟨q1, q2⟩ := q
      rw [bd_err hu] at h
      exfalso
      simp only [Prod.mk.injEq] at h
      have hn := unitF_p _ ts (Nat.le_refl _)
      rw [hu] at hn
      obtain ⟨y, hy, hny⟩ := lexAll_end hl
      rcases hn with ⟨t, _, _, hne⟩ | hall
      · exact hne h.2.2
      · exact hny (hall y hy)
    | ok q =>
      obtain ⟨ys, k⟩ := q
      rw [bd_ok hu] at h
      simp only at h
      split at h
      · simp at h
      · simp only [Prod.mk.injEq, T.mk.injEq, true_and, and_true] at h
        exact ⟨k, by rw [h.1]⟩

/- The declarations of a list are the same with others behind them. -/
theorem unitF_more2 {x : List Tok} {e : Tok} (he : ¬ Con e) (hk : e.kind = 0) (hx : ∃ t ∈ x, ¬ Con t) : ∀ (n : Nat) {c : List Tok} {xs : List T} {k : List Tok}, (∀ t ∈ c, t.kind ≠ 0) → unitF n (c ++ [e]) = .ok (xs, k) → ∀ {ys : List T} {k2 : List Tok} (m : Nat), unitF m x = .ok (ys, k2) → x.length + 1 ≤ m →
    ∀ n2, (c ++ x).length + 1 ≤ n2 → ∃ zs k3, unitF n2 (c ++ x) = .ok (zs, k3) ∧ TsR (fun _ _ => True) (xs ++ ys) zs := by
  intro n
  induction n with
  | zero => intro c xs k _ h; cases h
  | succ n ih =>
    intro c xs k hc h ys k2 m hm hxm n2 hn2
    cases c with
    | nil =>
      have h1 : unitF (n + 1) ([] ++ [e]) = .ok ([], [e]) := by
        rw [unitF]
        show (bif e.kind == 0 then _ else _) = _
        rw [hk]
        rfl
      rw [h1] at h
      cases h
      have h2 := unitF_s (ρ := fun _ _ => True) (x := []) (x' := []) m n2 (Al.true x) (by simpa using hxm) (by simpa using hn2)
      rw [List.append_nil] at h2
      rw [List.nil_append] at hn2 ⊢
      rcases h2 with ⟨a, a', d, q, d', q', e1, e2, hv, _⟩ | ⟨p, p', ee, e1, _⟩ | ⟨hcon, _⟩
      · rw [hm] at e1
        cases e1
        exact ⟨a', _, e2, hv⟩
      · rw [hm] at e1; cases e1
      · obtain ⟨t, ht, hn⟩ := hx
        exact absurd (hcon t ht) hn
    | cons t c1 =>
      have ht0 : (t.kind == 0) = false := beq_eq_false_iff_ne.2 (hc t (by simp))
      rw [unitF] at h
      have h' : bd (declP (t :: c1 ++ [e])) (fun a l1 => bd (unitF n l1) fun xs l2 => .ok (a :: xs, l2)) = .ok (xs, k) := by
        have e1 : ((hdT (t :: c1 ++ [e])).kind == 0) = false := ht0
        rw [e1] at h
        exact h
      obtain ⟨n3, rfl⟩ : ∃ n3, n2 = n3 + 1 := ⟨n2 - 1, by omega⟩
      have hs := decl_s (ρ := fun _ _ => True) (x := [e]) (x' := x) (Al.true (t :: c1))
      rcases hs with ⟨a, a', d, q, d', q', e1, e2, hv, hd, hd', hal, hcon⟩ | ⟨p, p', ee, e1, _⟩ | ⟨_, _, _, hcl⟩
      · rw [bd_ok e1] at h'
        cases hu : unitF n (q ++ [e]) with
        | error er => rw [bd_err hu] at h'; cases h'
        | ok r =>
          obtain ⟨xs1, k1⟩ := r
          rw [bd_ok hu] at h'
          cases h'
          have hq : ∀ t ∈ q, t.kind ≠ 0 := fun u hu => hc u (by rw [hd]; exact List.mem_append_right _ hu)
          have hqq : q = q' := by
            have h4 : d.length = d'.length := by
              have h5 := Al.length hal
              have h6 := congrArg List.length hd
              have h7 := congrArg List.length hd'
              rw [List.length_append] at h6 h7
              omega
            exact (List.append_inj (hd.symm.trans hd') h4).2
          subst hqq
          have hlen : (q ++ x).length + 1 ≤ n3 := by
            have h5 := sz_sh (decl_sz _) _ _ e2
            unfold Sh at h5
            omega
          obtain ⟨zs, k3, hz, hr⟩ := ih hq hu m hm hxm n3 hlen
          refine ⟨a' :: zs, k3, ?_, ?_⟩
          · rw [unitF]
            have e3 : ((hdT (t :: c1 ++ x)).kind == 0) = false := ht0
            rw [e3]
            show bd (declP (t :: c1 ++ x)) _ = _
            rw [bd_ok e2, bd_ok hz]
          · exact TsR.cons hv hr
      · rw [bd_err e1] at h'; cases h'
      · obtain ⟨er, her⟩ := hcl rfl (fun u hu => by obtain rfl : u = e := List.mem_singleton.1 hu; exact he)
        rw [bd_err her] at h'
        cases h'

theorem lex_kinds {s : ByteArray} : ∀ j ts, lexFrom s j = .ok ts → ∃ c, ts = c ++ [endTok s] ∧ ∀ t ∈ c, t.kind ≠ 0 := by
  intro j
  apply lex_ind (s := s) (P := fun _ r => ∀ ts, r = .ok ts → ∃ c, ts = c ++ [endTok s] ∧ ∀ t ∈ c, t.kind ≠ 0)
  · intro k _ ts h; cases h; exact ⟨[], rfl, by simp⟩
  · intro k _ _ ih; exact ih
  · intro k _ _ ih; exact ih
  · intro k e _ _ _ _ ts h; cases h
  · intro k t hk _ _ ht ih ts h
    obtain ⟨r', hr', rfl⟩ := more_ok h
    obtain ⟨c, hc, hk0⟩ := ih r' hr'
    obtain ⟨kd, n, v, h3, ht3, hn, hn1, hn2⟩ := tok_three hk ht
    refine ⟨t :: c, by rw [hc]; rfl, fun u hu => ?_⟩
    rcases List.mem_cons.1 hu with rfl | hu
    · rw [ht3]
      exact tok_kind0 h3
    · exact hk0 u hu

/- What the law asks of the three trees. -/
theorem parse_joined {a b : ByteArray} {xs ys : List T} {p q : Nat} (ha : parseB a = (.mk 0 e0 0 0 xs, p, 0)) (hb : parseB b = (.mk 0 e0 0 0 ys, q, 0)) (hs : a.size + b.size + 1 ≤ 16384) (hz : (T.mk 0 e0 0 0 xs).size + (T.mk 0 e0 0 0 ys).size ≤ 4097) :
    ∃ zs r, parseB (joinB a b) = (.mk 0 e0 0 0 zs, r, 0) ∧ TsR (fun _ _ => True) (xs ++ ys) zs := by
  obtain ⟨ta, hla, ka, hua⟩ := parse_unit ha
  obtain ⟨tb, hlb, kb, hub⟩ := parse_unit hb
  have hj := lex_join hla hlb hs
  obtain ⟨c, hc, hk0⟩ := lex_kinds 0 ta (lexAll_from hla).1
  have hsh := unitF_s (ρ := fun _ _ => True) (x := []) (x' := []) (tb.length + 1) ((tb.map (shiftTok (a.size + 1))).length + 1) (Al.trueShift (a.size + 1) tb) (by simp) (by simp)
  rw [List.append_nil, List.append_nil] at hsh
  obtain ⟨t0, ht0, hn0⟩ := lexAll_end hlb
  rcases hsh with ⟨y1, y2, d, k, d', k', e1, e2, hv, _⟩ | ⟨p1, p2, ee, e1, _⟩ | ⟨hcon, _⟩
  · rw [hub] at e1
    cases e1
    have hx : ∃ t ∈ tb.map (shiftTok (a.size + 1)), ¬ Con t := ⟨shiftTok (a.size + 1) t0, List.mem_map_of_mem ht0, hn0⟩
    have hua' : unitF (ta.length + 1) (c ++ [endTok a]) = .ok (xs, ka) := by rw [← hc]; exact hua
    have hdl : ta.dropLast = c := by rw [hc]; simp
    obtain ⟨zs, k3, hz1, hz2⟩ := unitF_more2 (end_nc a) rfl hx (ta.length + 1) hk0 hua' ((tb.map (shiftTok (a.size + 1))).length + 1) e2 (Nat.le_refl _) ((c ++ tb.map (shiftTok (a.size + 1))).length + 1) (Nat.le_refl _)
    have hr : TsR (fun _ _ => True) (xs ++ ys) zs := TsR.trans1 (TsR.append (TsR.refl1 xs) hv) hz2
    refine ⟨zs, 0, ?_, hr⟩
    rw [parseB_ok hj, hdl]
    unfold parseToks
    have hu3 : unitP (c ++ tb.map (shiftTok (a.size + 1))) = .ok (.mk 0 e0 0 0 zs, k3) := by unfold unitP; rw [bd_ok hz1]
    rw [hu3]
    have hsz : sizes zs = sizes xs + sizes ys := by rw [← TsR.sizes hr, sizes_append]
    rw [size_mk, size_mk] at hz
    show (if 4096 < (T.mk 0 e0 0 0 zs).size then _ else _) = _
    rw [if_neg (by rw [size_mk]; omega)]
  · rw [hub] at e1; cases e1
  · exact absurd (hcon t0 ht0) hn0

theorem parse_root {s : ByteArray} {t : T} {p : Nat} {e : Int} (h : parseB s = (t, p, e)) : t = .mk 0 e0 0 0 t.kids := by
  have hz : zeroT = .mk 0 e0 0 0 zeroT.kids := rfl
  cases hl : lexAll s with
  | error q => obtain ⟨k, c⟩ := q; rw [parseB_err hl] at h; cases h; exact hz
  | ok ts =>
    rw [parseB_ok hl] at h
    unfold parseToks unitP at h
    cases hu : unitF (ts.length + 1) ts with
    | error q => obtain ⟨k, c⟩ := q; rw [bd_err hu] at h; cases h; exact hz
    | ok q =>
      obtain ⟨ys, k⟩ := q
      rw [bd_ok hu] at h
      simp only at h
      split at h <;> (cases h; rfl)


theorem wp_append_kids2 {P : Program} {w : World} {o : Oper} {a : Act} {K : Act → World → Prop} {Q : Exit → Act → World → Prop} (s x : Operand) {t e : TypeId} (ho : o.op = .call { callee := .builtin .append, args := #[s, x], argTypes := #[t, t] })
    {i : TypeInfo} {z : Value} (I : NodeInfo P t e i z) {ks ts : List T} {S : Nat → Prop} {v y : Value} (hs : a.eval s = v) (hk : KAt e w ks S v) (hx : a.eval x = y)
    (hts : KAt e w ts (fun b => S b ∧ v.ownBlock ≠ some b) y) (hS : S w.heap.size) (hb : ks.length + ts.length ≤ 100000)
    (h : ∀ v' w', KAt e w' (ks ++ ts) S v' → w.grownBy w' v.ownBlock → (v'.ownBlock = v.ownBlock ∨ v'.ownBlock = some w.heap.size) → K (a.put o.dst v') w') : o.wp P a w K Q := by
  obtain ⟨us, ho', hSu, hus⟩ := hts
  have hus' : TsAt e w ts (fun b => S b ∧ v.ownBlock ≠ some b) us := TsAt.keep ts hus fun b hb _ => ⟨hb.1, rfl⟩
  rcases ho'.2 with ⟨rfl, h0⟩ | ⟨g, cap, cur, rfl, hbg, hg, hnc, hcm, hcs, htake⟩
  · obtain rfl : ts = [] := List.eq_nil_of_length_eq_zero h0
    have hk' := hk
    obtain ⟨vs, hown, _⟩ := hk
    have hrun := run_append_owned_none (P := P) (w := w) 0 t o.type e i 5 I.ht I.hi v ks.length _ hown
    unfold Oper.wp
    simp [execOp, ho, resolve, invoke, builtin, hs, hx, hrun, Result.andThen]
    exact h v w (by rw [List.append_nil]; exact hk') ⟨rfl, rfl, rfl, Nat.le_refl _, fun _ _ _ => rfl⟩ (.inl rfl)
  · by_cases hm : 0 < ts.length
    · exact wp_append_trees s x ho I hs hk hus' hS hx rfl hm (ho'.cells (g := g) rfl) hb fun v' w' h1 h2 h3 => h v' w' h1 h2 h3
    · obtain rfl : ts = [] := List.eq_nil_of_length_eq_zero (by omega)
      obtain ⟨vs, hown, hSv, hks⟩ := hk
      obtain ⟨v', w', hr, ho2, hg', hnil⟩ := run_append_own (P := P) w 0 t o.type e i z 5 64 I.ht I.hi I.hz I.size I.bytes I.zs (by decide) v ks.length (rowCells ks vs) hown ⟨g, 0, none⟩ 0 cap [] (by simp) (by simp) (by simp) (by unfold maxLen; simp at hb; omega) (by simp at hb; omega) (Nat.zero_le _)
      have hbk := append_block0 I.ht I.hi I.size hown hr (fun hv => hnil.2 ⟨hv, rfl⟩)
      unfold Oper.wp execOp
      simp only [ho, resolve, invoke, builtin, Sem.run_bind, Sem.run_pure, Result.andThen_ok, List.map_toArray, List.map_cons, List.map_nil, hs, hx, List.length_nil, hr]
      refine h v' w' ⟨vs, ?_, fun g hg => hSv g (hbk ▸ hg), ?_⟩ hg' (.inl hbk)
      · rw [List.append_nil]
        simpa using ho2
      · rw [List.append_nil]
        exact TsAt.keep ks hks fun b hb hl => ⟨⟨hb.1, fun he => hb.2 (hbk ▸ he)⟩, hg'.block b hl (Ne.symm hb.2)⟩

mutual
theorem TR.symm1 : ∀ {t u : T}, TR (fun _ _ => True) t u → TR (fun _ _ => True) u t
  | .mk _ _ _ _ ks, u, h => TR.of h.kind.symm h.text.symm h.num.symm trivial (TsR.symm1 (show TsR _ ks u.kids from h.kids))
theorem TsR.symm1 : ∀ {ts us : List T}, TsR (fun _ _ => True) ts us → TsR (fun _ _ => True) us ts
  | [], us, h => by unfold TsR at h; subst h; exact .nil
  | t :: ts, us, h => by
    unfold TsR at h
    obtain ⟨u, us', rfl, h1, h2⟩ := h
    exact .cons (TR.symm1 h1) (TsR.symm1 h2)
end
theorem TsR.get {ρ : Nat → Nat → Prop} : ∀ {ts us : List T} {k : Nat} {t u : T}, TsR ρ ts us → ts[k]? = some t → us[k]? = some u → TR ρ t u
  | [], us, k, t, u, _, h, _ => by simp at h
  | a :: ts, us, k, t, u, h, h1, h2 => by
    unfold TsR at h
    obtain ⟨b, us', rfl, h3, h4⟩ := h
    cases k with
    | zero =>
      obtain rfl : a = t := by simpa using h1
      obtain rfl : b = u := by simpa using h2
      exact h3
    | succ k => exact TsR.get h4 (by simpa using h1) (by simpa using h2)

/- What the loop leaves standing. -/
structure JSt (W : World) (g3 : Nat) (t3 : T) (k3 : Value) (wr : World) : Prop where
  below : Below W.heap.size W wr
  blk : Blk wr g3 (nodeCells t3 k3) 25
def JRel (W : World) (g3 : Nat) (t3 : T) (k3 : Value) (n gk : Nat) (i : Value) (wr : World) : Prop :=
  ∃ k : Nat, k ≤ n ∧ n ≤ k + gk ∧ i = .int .i64 k ∧ JSt W g3 t3 k3 wr

set_option maxHeartbeats 8000000 in
set_option maxRecDepth 100000 in
theorem syntaxJoined_walk (a b : ByteArray) (w : World) (hsa : a.size ≤ maxLen) (hsb : b.size ≤ maxLen) (hla : a.size ≤ 140737488351232) (hlb : b.size ≤ 140737488351232) (ht : Tabs w) :
    Calls Tryd.prog 8 #[.string a, .string b] w fun e w' => e = .returned (.bool true) ∧ Below w.heap.size w w' := by
  have HT := Lib.hid ht
  cases hq : parseB a with
  | mk t1 q1 =>
  obtain ⟨p1, c1⟩ := q1
  cases hq2 : parseB b with
  | mk t2 q2 =>
  obtain ⟨p2, c2⟩ := q2
  have HQ1 := Lib.hid hq
  have HQ2 := Lib.hid hq2
  have hz1 : t1.size ≤ 4096 := by have := (parse_good a).2; rw [hq] at this; exact this
  have hz2 : t2.size ≤ 4096 := by have := (parse_good b).2; rw [hq2] at this; exact this
  clear hq hq2 ht
  go_enter Tryd.func8, Tryd.ntmps8
  go_wp2_with fail
  refine (parse_any a w hsa HT.out).mono ?_
  rw [HQ1.out]
  rintro e w1 ⟨k1, rfl, hk, hb⟩
  have HK1 := Lib.hid (show KAt 25 w1 t1.kids (fun b => w.heap.size ≤ b) k1 from hk)
  have HO1 := Lib.hid HK1.out.one
  have HB1 := Lib.hid hb
  have HT1 := Lib.hid (HT.out.below hb HT.out.size)
  have HN1 := Lib.hid (Blk.new w1 (nodeCells t1 k1) 25)
  clear hk hb
  unfold NodeV
  go_wp2_with ((with_reducible refine at_st 25 (.tmp 5) ?_); refine wpList_store_new rfl 25 (.tmp 5) (.tmp 19) rfl (nodeCells t1 k1) (old := zeroNodeCells) rfl rfl Tryd.sizeNode rfl (nodeCells_one _ _ HO1.out) ?_)
  refine (parse_any b _ hsb HT1.out.alloc).mono ?_
  rw [HQ2.out]
  rintro e w2 ⟨k2, rfl, hk2, hb2⟩
  have HK2 := Lib.hid (show KAt 25 w2 t2.kids _ k2 from hk2)
  have HO2 := Lib.hid HK2.out.one
  have HN2 := Lib.hid ((HN1.out.below hb2).alloc (.cells (nodeCells t2 k2).toArray 25))
  have HM2 := Lib.hid (Blk.new w2 (nodeCells t2 k2) 25)
  have HKA2 := Lib.hid (((HK1.out.alloc (.cells (nodeCells t1 k1).toArray 25)).below hb2).alloc (.cells (nodeCells t2 k2).toArray 25))
  have HKB2 := Lib.hid (HK2.out.alloc (.cells (nodeCells t2 k2).toArray 25))
  have HB2 := Lib.hid (((HB1.out.alloc HB1.out.size _).trans (hb2.mono (by simp; have := HB1.out.size; omega))).alloc (by have := HB1.out.size; have := hb2.size; simp at this; omega) (.cells (nodeCells t2 k2).toArray 25))
  have HT2 := Lib.hid (HT.out.below HB2.out HT.out.size)
  have hlt12 : w1.heap.size < w2.heap.size := by have := hb2.size; simp at this; omega
  clear hk2 hb2 HK1 HK2 HN1
  unfold NodeV
  go_wp2_with ((with_reducible refine at_st 25 (.tmp 8) ?_); refine wpList_store_new rfl 25 (.tmp 8) (.tmp 25) rfl (nodeCells t2 k2) (old := zeroNodeCells) rfl rfl Tryd.sizeNode rfl (nodeCells_one _ _ HO2.out) ?_)
  generalize hw3 : w2.alloc (.cells (nodeCells t2 k2).toArray 25) = w3 at *
  clear hw3
  have s1 : IntKind.i64.wrap ((a.size : Int) + (b.size : Int)) = (a.size : Int) + (b.size : Int) := IntWalk.i64_in _ (by omega)
  have s2 : IntKind.i64.wrap ((a.size : Int) + (b.size : Int) + 1) = (a.size : Int) + (b.size : Int) + 1 := IntWalk.i64_in _ (by omega)
  have s3 : IntKind.i64.wrap ((t1.size : Int) + (t2.size : Int)) = (t1.size : Int) + (t2.size : Int) := IntWalk.i64_in _ (by omega)
  have s4 : IntKind.i64.wrap ((t1.size : Int) + (t2.size : Int) - 1) = (t1.size : Int) + (t2.size : Int) - 1 := IntWalk.i64_in _ (by omega)
  have hway : (c1 != 0) = true ∨ ((c1 != 0) = false ∧ (c2 != 0) = true) ∨ ((c1 != 0) = false ∧ (c2 != 0) = false ∧ decide (16384 < (a.size : Int) + (b.size : Int) + 1) = true) ∨
      ((c1 != 0) = false ∧ (c2 != 0) = false ∧ decide (16384 < (a.size : Int) + (b.size : Int) + 1) = false ∧ decide (4096 < (t1.size : Int) + (t2.size : Int) - 1) = true) ∨
      ((c1 != 0) = false ∧ (c2 != 0) = false ∧ decide (16384 < (a.size : Int) + (b.size : Int) + 1) = false ∧ decide (4096 < (t1.size : Int) + (t2.size : Int) - 1) = false) := by
    cases h1 : (c1 != 0) with
    | true => exact .inl rfl
    | false =>
      cases h2 : (c2 != 0) with
      | true => exact .inr (.inl ⟨rfl, rfl⟩)
      | false =>
        cases h3 : decide (16384 < (a.size : Int) + (b.size : Int) + 1) with
        | true => exact .inr (.inr (.inl ⟨rfl, rfl, rfl⟩))
        | false =>
          cases h4 : decide (4096 < (t1.size : Int) + (t2.size : Int) - 1) with
          | true => exact .inr (.inr (.inr (.inl ⟨rfl, rfl, rfl, rfl⟩)))
          | false => exact .inr (.inr (.inr (.inr ⟨rfl, rfl, rfl, rfl⟩)))
  rcases hway with hw1 | ⟨hw1, hw2⟩ | ⟨hw1, hw2, hw3⟩ | ⟨hw1, hw2, hw3, hw4⟩ | ⟨hw1, hw2, hw3, hw4⟩
  ·
    refine wp_region_held_drew (S := fun W => Blk W w1.heap.size (nodeCells t1 k1) 25 ∧ Blk W w2.heap.size (nodeCells t2 k2) 25) (by kernel_rfl) (⟨HN2.out.drew, HM2.out.drew⟩) (fun hS => ?_)
    refine AnyH.one (i := 0) (o := ⟨some 28, _, _, _, _, _⟩) (by kernel_rfl) rfl (by rfl) (fun K hK => ?_)
    go_simp
    refine (wakes_any _ (show Tabs w3.drew from HT2.out.below (Below.refl _ _).drew HT2.out.size)).mono ?_
    rintro e w4 ⟨rfl, hb4⟩
    have HN4 := Lib.hid (HN2.out.drew.below hb4)
    have HM4 := Lib.hid (HM2.out.drew.below hb4)
    have HKA4 := Lib.hid (HKA2.out.drew.below hb4)
    have HKB4 := Lib.hid (HKB2.out.drew.below hb4)
    have HB4 := Lib.hid (HB2.out.drew.trans (hb4.mono HB2.out.drew.size))
    have HT4 := Lib.hid (HT.out.below HB4.out HT.out.size)
    clear hb4 hS
    have hS : Blk w4 w1.heap.size (nodeCells t1 k1) 25 ∧ Blk w4 w2.heap.size (nodeCells t2 k2) 25 := ⟨HN4.out, HM4.out⟩
    refine hK.out _ _ hS ?_
    clear hK K
    try simp only [Act.put, List.setIfInBounds_toArray, List.set_cons_zero, List.set_cons_succ]
    refine wpAnyH_take (i := 1) (oi := ⟨some 29, _, _, _, _, _⟩) (v := .bool false) rfl (by kernel_rfl) (by kernel_rfl) (by kernel_rfl) (fun _ _ _ h => h) (Or.inl ⟨by rfl, fun W _ => by go_simp⟩) hS ?_
    try simp only [Act.put, List.setIfInBounds_toArray, List.set_cons_zero, List.set_cons_succ]
    refine wpAnyH_take (i := 2) (oi := ⟨some 30, _, _, _, _, _⟩) (v := .bool false) rfl (by kernel_rfl) (by kernel_rfl) (by kernel_rfl) (fun _ _ _ h => h) (Or.inl ⟨by rfl, fun W _ => by go_simp⟩) hS ?_
    try simp only [Act.put, List.setIfInBounds_toArray, List.set_cons_zero, List.set_cons_succ]
    refine wpAnyH_take (i := 3) (oi := ⟨some 31, _, _, _, _, _⟩) (v := .int .i64 c1) rfl (by kernel_rfl) (by kernel_rfl) (by kernel_rfl) (fun _ _ _ h => h) (Or.inl ⟨by rfl, fun W _ => by go_simp⟩) hS ?_
    try simp only [Act.put, List.setIfInBounds_toArray, List.set_cons_zero, List.set_cons_succ]
    refine wpAnyH_take (i := 4) (oi := ⟨some 32, _, _, _, _, _⟩) (v := .bool true) rfl (by kernel_rfl) (by kernel_rfl) (by kernel_rfl) (fun _ _ _ h => h) (Or.inl ⟨by rfl, fun W _ => by go_simp⟩) hS ?_
    try simp only [Act.put, List.setIfInBounds_toArray, List.set_cons_zero, List.set_cons_succ]
    refine wpAnyH_take (i := 5) (oi := ⟨some 33, _, _, _, _, _⟩) (v := .bool true) rfl (by kernel_rfl) (by kernel_rfl) (by kernel_rfl) (fun _ _ _ h => h) (Or.inl ⟨by rfl, fun W _ => by go_simp⟩) hS ?_
    try simp only [Act.put, List.setIfInBounds_toArray, List.set_cons_zero, List.set_cons_succ]
    refine wpAnyH_take (i := 6) (oi := ⟨some 34, _, _, _, _, _⟩) (v := .bool true) rfl (by kernel_rfl) (by kernel_rfl) (by kernel_rfl) (fun _ _ _ h => h) (Or.inl ⟨by rfl, fun W _ => by go_simp⟩) hS ?_
    try simp only [Act.put, List.setIfInBounds_toArray, List.set_cons_zero, List.set_cons_succ]
    refine wpAnyH_take (i := 7) (oi := ⟨some 35, _, _, _, _, _⟩) (v := undef) rfl (by kernel_rfl) (by kernel_rfl) (by kernel_rfl) (fun _ _ _ h => h) (Or.inr ⟨by rfl, rfl⟩) hS ?_
    try simp only [Act.put, List.setIfInBounds_toArray, List.set_cons_zero, List.set_cons_succ]
    refine wpAnyH_take (i := 8) (oi := ⟨some 36, _, _, _, _, _⟩) (v := undef) rfl (by kernel_rfl) (by kernel_rfl) (by kernel_rfl) (fun _ _ _ h => h) (Or.inr ⟨by rfl, rfl⟩) hS ?_
    try simp only [Act.put, List.setIfInBounds_toArray, List.set_cons_zero, List.set_cons_succ]
    refine wpAnyH_take (i := 9) (oi := ⟨some 37, _, _, _, _, _⟩) (v := .bool true) rfl (by kernel_rfl) (by kernel_rfl) (by kernel_rfl) (fun _ _ _ h => h) (Or.inl ⟨by rfl, fun W _ => by go_simp⟩) hS ?_
    try simp only [Act.put, List.setIfInBounds_toArray, List.set_cons_zero, List.set_cons_succ]
    refine wpAnyH_take (i := 10) (oi := ⟨some 38, _, _, _, _, _⟩) (v := .bool true) rfl (by kernel_rfl) (by kernel_rfl) (by kernel_rfl) (fun _ _ _ h => h) (Or.inl ⟨by rfl, fun W _ => by go_simp⟩) hS ?_
    try simp only [Act.put, List.setIfInBounds_toArray, List.set_cons_zero, List.set_cons_succ]
    refine wpAnyH_take (i := 11) (oi := ⟨some 39, _, _, _, _, _⟩) (v := undef) rfl (by kernel_rfl) (by kernel_rfl) (by kernel_rfl) (fun _ _ _ h => h) (Or.inr ⟨by rfl, rfl⟩) hS ?_
    try simp only [Act.put, List.setIfInBounds_toArray, List.set_cons_zero, List.set_cons_succ]
    refine wpAnyH_take (i := 12) (oi := ⟨some 40, _, _, _, _, _⟩) (v := undef) rfl (by kernel_rfl) (by kernel_rfl) (by kernel_rfl) (fun _ _ _ h => h) (Or.inr ⟨by rfl, rfl⟩) hS ?_
    try simp only [Act.put, List.setIfInBounds_toArray, List.set_cons_zero, List.set_cons_succ]
    refine wpAnyH_take (i := 13) (oi := ⟨some 41, _, _, _, _, _⟩) (v := undef) rfl (by kernel_rfl) (by kernel_rfl) (by kernel_rfl) (fun _ _ _ h => h) (Or.inr ⟨by rfl, rfl⟩) hS ?_
    try simp only [Act.put, List.setIfInBounds_toArray, List.set_cons_zero, List.set_cons_succ]
    refine wpAnyH_take (i := 14) (oi := ⟨some 42, _, _, _, _, _⟩) (v := undef) rfl (by kernel_rfl) (by kernel_rfl) (by kernel_rfl) (fun _ _ _ h => h) (Or.inr ⟨by rfl, rfl⟩) hS ?_
    try simp only [Act.put, List.setIfInBounds_toArray, List.set_cons_zero, List.set_cons_succ]
    refine wpAnyH_take (i := 15) (oi := ⟨some 43, _, _, _, _, _⟩) (v := undef) rfl (by kernel_rfl) (by kernel_rfl) (by kernel_rfl) (fun _ _ _ h => h) (Or.inr ⟨by rfl, rfl⟩) hS ?_
    try simp only [Act.put, List.setIfInBounds_toArray, List.set_cons_zero, List.set_cons_succ]
    refine wpAnyH_take (i := 16) (oi := ⟨some 44, _, _, _, _, _⟩) (v := undef) rfl (by kernel_rfl) (by kernel_rfl) (by kernel_rfl) (fun _ _ _ h => h) (Or.inr ⟨by rfl, rfl⟩) hS ?_
    try simp only [Act.put, List.setIfInBounds_toArray, List.set_cons_zero, List.set_cons_succ]
    refine wpAnyH_take (i := 17) (oi := ⟨some 45, _, _, _, _, _⟩) (v := undef) rfl (by kernel_rfl) (by kernel_rfl) (by kernel_rfl) (fun _ _ _ h => h) (Or.inr ⟨by rfl, rfl⟩) hS ?_
    try simp only [Act.put, List.setIfInBounds_toArray, List.set_cons_zero, List.set_cons_succ]
    refine wpAnyH_take (i := 18) (oi := ⟨some 46, _, _, _, _, _⟩) (v := .bool true) rfl (by kernel_rfl) (by kernel_rfl) (by kernel_rfl) (fun _ _ _ h => h) (Or.inl ⟨by rfl, fun W _ => by go_simp⟩) hS ?_
    try simp only [Act.put, List.setIfInBounds_toArray, List.set_cons_zero, List.set_cons_succ]
    refine wpAnyH_take (i := 19) (oi := ⟨some 47, _, _, _, _, _⟩) (v := .bool true) rfl (by kernel_rfl) (by kernel_rfl) (by kernel_rfl) (fun _ _ _ h => h) (Or.inl ⟨by rfl, fun W _ => by go_simp⟩) hS ?_
    try simp only [Act.put, List.setIfInBounds_toArray, List.set_cons_zero, List.set_cons_succ]
    refine wpAnyH_take (i := 20) (oi := ⟨some 48, _, _, _, _, _⟩) (v := undef) rfl (by kernel_rfl) (by kernel_rfl) (by kernel_rfl) (fun _ _ _ h => h) (Or.inr ⟨by rfl, rfl⟩) hS ?_
    try simp only [Act.put, List.setIfInBounds_toArray, List.set_cons_zero, List.set_cons_succ]
    refine wpAnyH_take (i := 21) (oi := ⟨some 49, _, _, _, _, _⟩) (v := undef) rfl (by kernel_rfl) (by kernel_rfl) (by kernel_rfl) (fun _ _ _ h => h) (Or.inr ⟨by rfl, rfl⟩) hS ?_
    try simp only [Act.put, List.setIfInBounds_toArray, List.set_cons_zero, List.set_cons_succ]
    refine wpAnyH_take (i := 22) (oi := ⟨some 50, _, _, _, _, _⟩) (v := undef) rfl (by kernel_rfl) (by kernel_rfl) (by kernel_rfl) (fun _ _ _ h => h) (Or.inr ⟨by rfl, rfl⟩) hS ?_
    try simp only [Act.put, List.setIfInBounds_toArray, List.set_cons_zero, List.set_cons_succ]
    refine wpAnyH_take (i := 23) (oi := ⟨some 51, _, _, _, _, _⟩) (v := undef) rfl (by kernel_rfl) (by kernel_rfl) (by kernel_rfl) (fun _ _ _ h => h) (Or.inr ⟨by rfl, rfl⟩) hS ?_
    try simp only [Act.put, List.setIfInBounds_toArray, List.set_cons_zero, List.set_cons_succ]
    refine wpAnyH_take (i := 24) (oi := ⟨some 52, _, _, _, _, _⟩) (v := undef) rfl (by kernel_rfl) (by kernel_rfl) (by kernel_rfl) (fun _ _ _ h => h) (Or.inr ⟨by rfl, rfl⟩) hS ?_
    try simp only [Act.put, List.setIfInBounds_toArray, List.set_cons_zero, List.set_cons_succ]
    refine wpAnyH_take (i := 25) (oi := ⟨some 53, _, _, _, _, _⟩) (v := undef) rfl (by kernel_rfl) (by kernel_rfl) (by kernel_rfl) (fun _ _ _ h => h) (Or.inr ⟨by rfl, rfl⟩) hS ?_
    try simp only [Act.put, List.setIfInBounds_toArray, List.set_cons_zero, List.set_cons_succ]
    refine wpAnyH_take (i := 26) (oi := ⟨some 54, _, _, _, _, _⟩) (v := undef) rfl (by kernel_rfl) (by kernel_rfl) (by kernel_rfl) (fun _ _ _ h => h) (Or.inr ⟨by rfl, rfl⟩) hS ?_
    try simp only [Act.put, List.setIfInBounds_toArray, List.set_cons_zero, List.set_cons_succ]
    refine wpAnyH_take (i := 27) (oi := ⟨some 55, _, _, _, _, _⟩) (v := .bool true) rfl (by kernel_rfl) (by kernel_rfl) (by kernel_rfl) (fun _ _ _ h => h) (Or.inl ⟨by rfl, fun W _ => by go_simp⟩) hS ?_
    try simp only [Act.put, List.setIfInBounds_toArray, List.set_cons_zero, List.set_cons_succ]
    refine wpAnyH_done (by kernel_rfl) ?_ _
    clear hS
    go_wp2_with fail
    refine (wakes_any _ HT4.out).mono ?_
    rintro e wf ⟨rfl, hbf⟩
    have HBF := Lib.hid (HB4.out.trans (hbf.mono HB4.out.size))
    clear hbf
    go_wp2
    go_ret
    exact ⟨rfl, HBF.out⟩
  ·
    refine wp_region_held_drew (S := fun W => Blk W w1.heap.size (nodeCells t1 k1) 25 ∧ Blk W w2.heap.size (nodeCells t2 k2) 25) (by kernel_rfl) (⟨HN2.out.drew, HM2.out.drew⟩) (fun hS => ?_)
    refine AnyH.one (i := 0) (o := ⟨some 28, _, _, _, _, _⟩) (by kernel_rfl) rfl (by rfl) (fun K hK => ?_)
    go_simp
    refine (wakes_any _ (show Tabs w3.drew from HT2.out.below (Below.refl _ _).drew HT2.out.size)).mono ?_
    rintro e w4 ⟨rfl, hb4⟩
    have HN4 := Lib.hid (HN2.out.drew.below hb4)
    have HM4 := Lib.hid (HM2.out.drew.below hb4)
    have HKA4 := Lib.hid (HKA2.out.drew.below hb4)
    have HKB4 := Lib.hid (HKB2.out.drew.below hb4)
    have HB4 := Lib.hid (HB2.out.drew.trans (hb4.mono HB2.out.drew.size))
    have HT4 := Lib.hid (HT.out.below HB4.out HT.out.size)
    clear hb4 hS
    have hS : Blk w4 w1.heap.size (nodeCells t1 k1) 25 ∧ Blk w4 w2.heap.size (nodeCells t2 k2) 25 := ⟨HN4.out, HM4.out⟩
    refine hK.out _ _ hS ?_
    clear hK K
    try simp only [Act.put, List.setIfInBounds_toArray, List.set_cons_zero, List.set_cons_succ]
    refine wpAnyH_take (i := 1) (oi := ⟨some 29, _, _, _, _, _⟩) (v := .bool false) rfl (by kernel_rfl) (by kernel_rfl) (by kernel_rfl) (fun _ _ _ h => h) (Or.inl ⟨by rfl, fun W _ => by go_simp⟩) hS ?_
    try simp only [Act.put, List.setIfInBounds_toArray, List.set_cons_zero, List.set_cons_succ]
    refine wpAnyH_take (i := 2) (oi := ⟨some 30, _, _, _, _, _⟩) (v := .bool false) rfl (by kernel_rfl) (by kernel_rfl) (by kernel_rfl) (fun _ _ _ h => h) (Or.inl ⟨by rfl, fun W _ => by go_simp⟩) hS ?_
    try simp only [Act.put, List.setIfInBounds_toArray, List.set_cons_zero, List.set_cons_succ]
    refine wpAnyH_take (i := 3) (oi := ⟨some 31, _, _, _, _, _⟩) (v := .int .i64 c1) rfl (by kernel_rfl) (by kernel_rfl) (by kernel_rfl) (fun _ _ _ h => h) (Or.inl ⟨by rfl, fun W _ => by go_simp⟩) hS ?_
    try simp only [Act.put, List.setIfInBounds_toArray, List.set_cons_zero, List.set_cons_succ]
    refine wpAnyH_take (i := 4) (oi := ⟨some 32, _, _, _, _, _⟩) (v := .bool false) rfl (by kernel_rfl) (by kernel_rfl) (by kernel_rfl) (fun _ _ _ h => h) (Or.inl ⟨by rfl, fun W _ => by go_simp⟩) hS ?_
    try simp only [Act.put, List.setIfInBounds_toArray, List.set_cons_zero, List.set_cons_succ]
    refine wpAnyH_take (i := 5) (oi := ⟨some 33, _, _, _, _, _⟩) (v := .bool false) rfl (by kernel_rfl) (by kernel_rfl) (by kernel_rfl) (fun _ _ _ h => h) (Or.inl ⟨by rfl, fun W _ => by go_simp⟩) hS ?_
    try simp only [Act.put, List.setIfInBounds_toArray, List.set_cons_zero, List.set_cons_succ]
    refine wpAnyH_take (i := 6) (oi := ⟨some 34, _, _, _, _, _⟩) (v := .bool false) rfl (by kernel_rfl) (by kernel_rfl) (by kernel_rfl) (fun _ _ _ h => h) (Or.inl ⟨by rfl, fun W _ => by go_simp⟩) hS ?_
    try simp only [Act.put, List.setIfInBounds_toArray, List.set_cons_zero, List.set_cons_succ]
    refine wpAnyH_take (i := 7) (oi := ⟨some 35, _, _, _, _, _⟩) (v := .int .i64 c2) rfl (by kernel_rfl) (by kernel_rfl) (by kernel_rfl) (fun _ _ _ h => h) (Or.inl ⟨by rfl, fun W _ => by go_simp⟩) hS ?_
    try simp only [Act.put, List.setIfInBounds_toArray, List.set_cons_zero, List.set_cons_succ]
    refine wpAnyH_take (i := 8) (oi := ⟨some 36, _, _, _, _, _⟩) (v := .bool true) rfl (by kernel_rfl) (by kernel_rfl) (by kernel_rfl) (fun _ _ _ h => h) (Or.inl ⟨by rfl, fun W _ => by go_simp⟩) hS ?_
    try simp only [Act.put, List.setIfInBounds_toArray, List.set_cons_zero, List.set_cons_succ]
    refine wpAnyH_take (i := 9) (oi := ⟨some 37, _, _, _, _, _⟩) (v := .bool true) rfl (by kernel_rfl) (by kernel_rfl) (by kernel_rfl) (fun _ _ _ h => h) (Or.inl ⟨by rfl, fun W _ => by go_simp⟩) hS ?_
    try simp only [Act.put, List.setIfInBounds_toArray, List.set_cons_zero, List.set_cons_succ]
    refine wpAnyH_take (i := 10) (oi := ⟨some 38, _, _, _, _, _⟩) (v := .bool true) rfl (by kernel_rfl) (by kernel_rfl) (by kernel_rfl) (fun _ _ _ h => h) (Or.inl ⟨by rfl, fun W _ => by go_simp⟩) hS ?_
    try simp only [Act.put, List.setIfInBounds_toArray, List.set_cons_zero, List.set_cons_succ]
    refine wpAnyH_take (i := 11) (oi := ⟨some 39, _, _, _, _, _⟩) (v := undef) rfl (by kernel_rfl) (by kernel_rfl) (by kernel_rfl) (fun _ _ _ h => h) (Or.inr ⟨by rfl, rfl⟩) hS ?_
    try simp only [Act.put, List.setIfInBounds_toArray, List.set_cons_zero, List.set_cons_succ]
    refine wpAnyH_take (i := 12) (oi := ⟨some 40, _, _, _, _, _⟩) (v := undef) rfl (by kernel_rfl) (by kernel_rfl) (by kernel_rfl) (fun _ _ _ h => h) (Or.inr ⟨by rfl, rfl⟩) hS ?_
    try simp only [Act.put, List.setIfInBounds_toArray, List.set_cons_zero, List.set_cons_succ]
    refine wpAnyH_take (i := 13) (oi := ⟨some 41, _, _, _, _, _⟩) (v := undef) rfl (by kernel_rfl) (by kernel_rfl) (by kernel_rfl) (fun _ _ _ h => h) (Or.inr ⟨by rfl, rfl⟩) hS ?_
    try simp only [Act.put, List.setIfInBounds_toArray, List.set_cons_zero, List.set_cons_succ]
    refine wpAnyH_take (i := 14) (oi := ⟨some 42, _, _, _, _, _⟩) (v := undef) rfl (by kernel_rfl) (by kernel_rfl) (by kernel_rfl) (fun _ _ _ h => h) (Or.inr ⟨by rfl, rfl⟩) hS ?_
    try simp only [Act.put, List.setIfInBounds_toArray, List.set_cons_zero, List.set_cons_succ]
    refine wpAnyH_take (i := 15) (oi := ⟨some 43, _, _, _, _, _⟩) (v := undef) rfl (by kernel_rfl) (by kernel_rfl) (by kernel_rfl) (fun _ _ _ h => h) (Or.inr ⟨by rfl, rfl⟩) hS ?_
    try simp only [Act.put, List.setIfInBounds_toArray, List.set_cons_zero, List.set_cons_succ]
    refine wpAnyH_take (i := 16) (oi := ⟨some 44, _, _, _, _, _⟩) (v := undef) rfl (by kernel_rfl) (by kernel_rfl) (by kernel_rfl) (fun _ _ _ h => h) (Or.inr ⟨by rfl, rfl⟩) hS ?_
    try simp only [Act.put, List.setIfInBounds_toArray, List.set_cons_zero, List.set_cons_succ]
    refine wpAnyH_take (i := 17) (oi := ⟨some 45, _, _, _, _, _⟩) (v := undef) rfl (by kernel_rfl) (by kernel_rfl) (by kernel_rfl) (fun _ _ _ h => h) (Or.inr ⟨by rfl, rfl⟩) hS ?_
    try simp only [Act.put, List.setIfInBounds_toArray, List.set_cons_zero, List.set_cons_succ]
    refine wpAnyH_take (i := 18) (oi := ⟨some 46, _, _, _, _, _⟩) (v := .bool true) rfl (by kernel_rfl) (by kernel_rfl) (by kernel_rfl) (fun _ _ _ h => h) (Or.inl ⟨by rfl, fun W _ => by go_simp⟩) hS ?_
    try simp only [Act.put, List.setIfInBounds_toArray, List.set_cons_zero, List.set_cons_succ]
    refine wpAnyH_take (i := 19) (oi := ⟨some 47, _, _, _, _, _⟩) (v := .bool true) rfl (by kernel_rfl) (by kernel_rfl) (by kernel_rfl) (fun _ _ _ h => h) (Or.inl ⟨by rfl, fun W _ => by go_simp⟩) hS ?_
    try simp only [Act.put, List.setIfInBounds_toArray, List.set_cons_zero, List.set_cons_succ]
    refine wpAnyH_take (i := 20) (oi := ⟨some 48, _, _, _, _, _⟩) (v := undef) rfl (by kernel_rfl) (by kernel_rfl) (by kernel_rfl) (fun _ _ _ h => h) (Or.inr ⟨by rfl, rfl⟩) hS ?_
    try simp only [Act.put, List.setIfInBounds_toArray, List.set_cons_zero, List.set_cons_succ]
    refine wpAnyH_take (i := 21) (oi := ⟨some 49, _, _, _, _, _⟩) (v := undef) rfl (by kernel_rfl) (by kernel_rfl) (by kernel_rfl) (fun _ _ _ h => h) (Or.inr ⟨by rfl, rfl⟩) hS ?_
    try simp only [Act.put, List.setIfInBounds_toArray, List.set_cons_zero, List.set_cons_succ]
    refine wpAnyH_take (i := 22) (oi := ⟨some 50, _, _, _, _, _⟩) (v := undef) rfl (by kernel_rfl) (by kernel_rfl) (by kernel_rfl) (fun _ _ _ h => h) (Or.inr ⟨by rfl, rfl⟩) hS ?_
    try simp only [Act.put, List.setIfInBounds_toArray, List.set_cons_zero, List.set_cons_succ]
    refine wpAnyH_take (i := 23) (oi := ⟨some 51, _, _, _, _, _⟩) (v := undef) rfl (by kernel_rfl) (by kernel_rfl) (by kernel_rfl) (fun _ _ _ h => h) (Or.inr ⟨by rfl, rfl⟩) hS ?_
    try simp only [Act.put, List.setIfInBounds_toArray, List.set_cons_zero, List.set_cons_succ]
    refine wpAnyH_take (i := 24) (oi := ⟨some 52, _, _, _, _, _⟩) (v := undef) rfl (by kernel_rfl) (by kernel_rfl) (by kernel_rfl) (fun _ _ _ h => h) (Or.inr ⟨by rfl, rfl⟩) hS ?_
    try simp only [Act.put, List.setIfInBounds_toArray, List.set_cons_zero, List.set_cons_succ]
    refine wpAnyH_take (i := 25) (oi := ⟨some 53, _, _, _, _, _⟩) (v := undef) rfl (by kernel_rfl) (by kernel_rfl) (by kernel_rfl) (fun _ _ _ h => h) (Or.inr ⟨by rfl, rfl⟩) hS ?_
    try simp only [Act.put, List.setIfInBounds_toArray, List.set_cons_zero, List.set_cons_succ]
    refine wpAnyH_take (i := 26) (oi := ⟨some 54, _, _, _, _, _⟩) (v := undef) rfl (by kernel_rfl) (by kernel_rfl) (by kernel_rfl) (fun _ _ _ h => h) (Or.inr ⟨by rfl, rfl⟩) hS ?_
    try simp only [Act.put, List.setIfInBounds_toArray, List.set_cons_zero, List.set_cons_succ]
    refine wpAnyH_take (i := 27) (oi := ⟨some 55, _, _, _, _, _⟩) (v := .bool true) rfl (by kernel_rfl) (by kernel_rfl) (by kernel_rfl) (fun _ _ _ h => h) (Or.inl ⟨by rfl, fun W _ => by go_simp⟩) hS ?_
    try simp only [Act.put, List.setIfInBounds_toArray, List.set_cons_zero, List.set_cons_succ]
    refine wpAnyH_done (by kernel_rfl) ?_ _
    clear hS
    go_wp2_with fail
    refine (wakes_any _ HT4.out).mono ?_
    rintro e wf ⟨rfl, hbf⟩
    have HBF := Lib.hid (HB4.out.trans (hbf.mono HB4.out.size))
    clear hbf
    go_wp2
    go_ret
    exact ⟨rfl, HBF.out⟩
  ·
    refine wp_region_held_drew (S := fun W => Blk W w1.heap.size (nodeCells t1 k1) 25 ∧ Blk W w2.heap.size (nodeCells t2 k2) 25) (by kernel_rfl) (⟨HN2.out.drew, HM2.out.drew⟩) (fun hS => ?_)
    refine AnyH.one (i := 0) (o := ⟨some 28, _, _, _, _, _⟩) (by kernel_rfl) rfl (by rfl) (fun K hK => ?_)
    go_simp
    refine (wakes_any _ (show Tabs w3.drew from HT2.out.below (Below.refl _ _).drew HT2.out.size)).mono ?_
    rintro e w4 ⟨rfl, hb4⟩
    have HN4 := Lib.hid (HN2.out.drew.below hb4)
    have HM4 := Lib.hid (HM2.out.drew.below hb4)
    have HKA4 := Lib.hid (HKA2.out.drew.below hb4)
    have HKB4 := Lib.hid (HKB2.out.drew.below hb4)
    have HB4 := Lib.hid (HB2.out.drew.trans (hb4.mono HB2.out.drew.size))
    have HT4 := Lib.hid (HT.out.below HB4.out HT.out.size)
    clear hb4 hS
    have hS : Blk w4 w1.heap.size (nodeCells t1 k1) 25 ∧ Blk w4 w2.heap.size (nodeCells t2 k2) 25 := ⟨HN4.out, HM4.out⟩
    refine hK.out _ _ hS ?_
    clear hK K
    try simp only [Act.put, List.setIfInBounds_toArray, List.set_cons_zero, List.set_cons_succ]
    refine wpAnyH_take (i := 1) (oi := ⟨some 29, _, _, _, _, _⟩) (v := .bool false) rfl (by kernel_rfl) (by kernel_rfl) (by kernel_rfl) (fun _ _ _ h => h) (Or.inl ⟨by rfl, fun W _ => by go_simp⟩) hS ?_
    try simp only [Act.put, List.setIfInBounds_toArray, List.set_cons_zero, List.set_cons_succ]
    refine wpAnyH_take (i := 2) (oi := ⟨some 30, _, _, _, _, _⟩) (v := .bool false) rfl (by kernel_rfl) (by kernel_rfl) (by kernel_rfl) (fun _ _ _ h => h) (Or.inl ⟨by rfl, fun W _ => by go_simp⟩) hS ?_
    try simp only [Act.put, List.setIfInBounds_toArray, List.set_cons_zero, List.set_cons_succ]
    refine wpAnyH_take (i := 3) (oi := ⟨some 31, _, _, _, _, _⟩) (v := .int .i64 c1) rfl (by kernel_rfl) (by kernel_rfl) (by kernel_rfl) (fun _ _ _ h => h) (Or.inl ⟨by rfl, fun W _ => by go_simp⟩) hS ?_
    try simp only [Act.put, List.setIfInBounds_toArray, List.set_cons_zero, List.set_cons_succ]
    refine wpAnyH_take (i := 4) (oi := ⟨some 32, _, _, _, _, _⟩) (v := .bool false) rfl (by kernel_rfl) (by kernel_rfl) (by kernel_rfl) (fun _ _ _ h => h) (Or.inl ⟨by rfl, fun W _ => by go_simp⟩) hS ?_
    try simp only [Act.put, List.setIfInBounds_toArray, List.set_cons_zero, List.set_cons_succ]
    refine wpAnyH_take (i := 5) (oi := ⟨some 33, _, _, _, _, _⟩) (v := .bool false) rfl (by kernel_rfl) (by kernel_rfl) (by kernel_rfl) (fun _ _ _ h => h) (Or.inl ⟨by rfl, fun W _ => by go_simp⟩) hS ?_
    try simp only [Act.put, List.setIfInBounds_toArray, List.set_cons_zero, List.set_cons_succ]
    refine wpAnyH_take (i := 6) (oi := ⟨some 34, _, _, _, _, _⟩) (v := .bool false) rfl (by kernel_rfl) (by kernel_rfl) (by kernel_rfl) (fun _ _ _ h => h) (Or.inl ⟨by rfl, fun W _ => by go_simp⟩) hS ?_
    try simp only [Act.put, List.setIfInBounds_toArray, List.set_cons_zero, List.set_cons_succ]
    refine wpAnyH_take (i := 7) (oi := ⟨some 35, _, _, _, _, _⟩) (v := .int .i64 c2) rfl (by kernel_rfl) (by kernel_rfl) (by kernel_rfl) (fun _ _ _ h => h) (Or.inl ⟨by rfl, fun W _ => by go_simp⟩) hS ?_
    try simp only [Act.put, List.setIfInBounds_toArray, List.set_cons_zero, List.set_cons_succ]
    refine wpAnyH_take (i := 8) (oi := ⟨some 36, _, _, _, _, _⟩) (v := .bool false) rfl (by kernel_rfl) (by kernel_rfl) (by kernel_rfl) (fun _ _ _ h => h) (Or.inl ⟨by rfl, fun W _ => by go_simp⟩) hS ?_
    try simp only [Act.put, List.setIfInBounds_toArray, List.set_cons_zero, List.set_cons_succ]
    refine wpAnyH_take (i := 9) (oi := ⟨some 37, _, _, _, _, _⟩) (v := .bool false) rfl (by kernel_rfl) (by kernel_rfl) (by kernel_rfl) (fun _ _ _ h => h) (Or.inl ⟨by rfl, fun W _ => by go_simp⟩) hS ?_
    try simp only [Act.put, List.setIfInBounds_toArray, List.set_cons_zero, List.set_cons_succ]
    refine wpAnyH_take (i := 10) (oi := ⟨some 38, _, _, _, _, _⟩) (v := .bool false) rfl (by kernel_rfl) (by kernel_rfl) (by kernel_rfl) (fun _ _ _ h => h) (Or.inl ⟨by rfl, fun W _ => by go_simp⟩) hS ?_
    try simp only [Act.put, List.setIfInBounds_toArray, List.set_cons_zero, List.set_cons_succ]
    refine wpAnyH_take (i := 11) (oi := ⟨some 39, _, _, _, _, _⟩) (v := .string a) rfl (by kernel_rfl) (by kernel_rfl) (by kernel_rfl) (fun _ _ _ h => h) (Or.inl ⟨by rfl, fun W _ => by go_simp⟩) hS ?_
    try simp only [Act.put, List.setIfInBounds_toArray, List.set_cons_zero, List.set_cons_succ]
    refine wpAnyH_take (i := 12) (oi := ⟨some 40, _, _, _, _, _⟩) (v := .int .i64 a.size) rfl (by kernel_rfl) (by kernel_rfl) (by kernel_rfl) (fun _ _ _ h => h) (Or.inl ⟨by rfl, fun W _ => by go_simp⟩) hS ?_
    try simp only [Act.put, List.setIfInBounds_toArray, List.set_cons_zero, List.set_cons_succ]
    refine wpAnyH_take (i := 13) (oi := ⟨some 41, _, _, _, _, _⟩) (v := .string b) rfl (by kernel_rfl) (by kernel_rfl) (by kernel_rfl) (fun _ _ _ h => h) (Or.inl ⟨by rfl, fun W _ => by go_simp⟩) hS ?_
    try simp only [Act.put, List.setIfInBounds_toArray, List.set_cons_zero, List.set_cons_succ]
    refine wpAnyH_take (i := 14) (oi := ⟨some 42, _, _, _, _, _⟩) (v := .int .i64 b.size) rfl (by kernel_rfl) (by kernel_rfl) (by kernel_rfl) (fun _ _ _ h => h) (Or.inl ⟨by rfl, fun W _ => by go_simp⟩) hS ?_
    try simp only [Act.put, List.setIfInBounds_toArray, List.set_cons_zero, List.set_cons_succ]
    refine wpAnyH_take (i := 15) (oi := ⟨some 43, _, _, _, _, _⟩) (v := .int .i64 ((a.size : Int) + (b.size : Int))) rfl (by kernel_rfl) (by kernel_rfl) (by kernel_rfl) (fun _ _ _ h => h) (Or.inl ⟨by rfl, fun W _ => by go_simp⟩) hS ?_
    try simp only [Act.put, List.setIfInBounds_toArray, List.set_cons_zero, List.set_cons_succ]
    refine wpAnyH_take (i := 16) (oi := ⟨some 44, _, _, _, _, _⟩) (v := .int .i64 ((a.size : Int) + (b.size : Int) + 1)) rfl (by kernel_rfl) (by kernel_rfl) (by kernel_rfl) (fun _ _ _ h => h) (Or.inl ⟨by rfl, fun W _ => by go_simp⟩) hS ?_
    try simp only [Act.put, List.setIfInBounds_toArray, List.set_cons_zero, List.set_cons_succ]
    refine wpAnyH_take (i := 17) (oi := ⟨some 45, _, _, _, _, _⟩) (v := .bool true) rfl (by kernel_rfl) (by kernel_rfl) (by kernel_rfl) (fun _ _ _ h => h) (Or.inl ⟨by rfl, fun W _ => by go_simp⟩) hS ?_
    try simp only [Act.put, List.setIfInBounds_toArray, List.set_cons_zero, List.set_cons_succ]
    refine wpAnyH_take (i := 18) (oi := ⟨some 46, _, _, _, _, _⟩) (v := .bool true) rfl (by kernel_rfl) (by kernel_rfl) (by kernel_rfl) (fun _ _ _ h => h) (Or.inl ⟨by rfl, fun W _ => by go_simp⟩) hS ?_
    try simp only [Act.put, List.setIfInBounds_toArray, List.set_cons_zero, List.set_cons_succ]
    refine wpAnyH_take (i := 19) (oi := ⟨some 47, _, _, _, _, _⟩) (v := .bool true) rfl (by kernel_rfl) (by kernel_rfl) (by kernel_rfl) (fun _ _ _ h => h) (Or.inl ⟨by rfl, fun W _ => by go_simp⟩) hS ?_
    try simp only [Act.put, List.setIfInBounds_toArray, List.set_cons_zero, List.set_cons_succ]
    refine wpAnyH_take (i := 20) (oi := ⟨some 48, _, _, _, _, _⟩) (v := undef) rfl (by kernel_rfl) (by kernel_rfl) (by kernel_rfl) (fun _ _ _ h => h) (Or.inr ⟨by rfl, rfl⟩) hS ?_
    try simp only [Act.put, List.setIfInBounds_toArray, List.set_cons_zero, List.set_cons_succ]
    refine wpAnyH_take (i := 21) (oi := ⟨some 49, _, _, _, _, _⟩) (v := undef) rfl (by kernel_rfl) (by kernel_rfl) (by kernel_rfl) (fun _ _ _ h => h) (Or.inr ⟨by rfl, rfl⟩) hS ?_
    try simp only [Act.put, List.setIfInBounds_toArray, List.set_cons_zero, List.set_cons_succ]
    refine wpAnyH_take (i := 22) (oi := ⟨some 50, _, _, _, _, _⟩) (v := undef) rfl (by kernel_rfl) (by kernel_rfl) (by kernel_rfl) (fun _ _ _ h => h) (Or.inr ⟨by rfl, rfl⟩) hS ?_
    try simp only [Act.put, List.setIfInBounds_toArray, List.set_cons_zero, List.set_cons_succ]
    refine wpAnyH_take (i := 23) (oi := ⟨some 51, _, _, _, _, _⟩) (v := undef) rfl (by kernel_rfl) (by kernel_rfl) (by kernel_rfl) (fun _ _ _ h => h) (Or.inr ⟨by rfl, rfl⟩) hS ?_
    try simp only [Act.put, List.setIfInBounds_toArray, List.set_cons_zero, List.set_cons_succ]
    refine wpAnyH_take (i := 24) (oi := ⟨some 52, _, _, _, _, _⟩) (v := undef) rfl (by kernel_rfl) (by kernel_rfl) (by kernel_rfl) (fun _ _ _ h => h) (Or.inr ⟨by rfl, rfl⟩) hS ?_
    try simp only [Act.put, List.setIfInBounds_toArray, List.set_cons_zero, List.set_cons_succ]
    refine wpAnyH_take (i := 25) (oi := ⟨some 53, _, _, _, _, _⟩) (v := undef) rfl (by kernel_rfl) (by kernel_rfl) (by kernel_rfl) (fun _ _ _ h => h) (Or.inr ⟨by rfl, rfl⟩) hS ?_
    try simp only [Act.put, List.setIfInBounds_toArray, List.set_cons_zero, List.set_cons_succ]
    refine wpAnyH_take (i := 26) (oi := ⟨some 54, _, _, _, _, _⟩) (v := undef) rfl (by kernel_rfl) (by kernel_rfl) (by kernel_rfl) (fun _ _ _ h => h) (Or.inr ⟨by rfl, rfl⟩) hS ?_
    try simp only [Act.put, List.setIfInBounds_toArray, List.set_cons_zero, List.set_cons_succ]
    refine wpAnyH_take (i := 27) (oi := ⟨some 55, _, _, _, _, _⟩) (v := .bool true) rfl (by kernel_rfl) (by kernel_rfl) (by kernel_rfl) (fun _ _ _ h => h) (Or.inl ⟨by rfl, fun W _ => by go_simp⟩) hS ?_
    try simp only [Act.put, List.setIfInBounds_toArray, List.set_cons_zero, List.set_cons_succ]
    refine wpAnyH_done (by kernel_rfl) ?_ _
    clear hS
    go_wp2_with fail
    refine (wakes_any _ HT4.out).mono ?_
    rintro e wf ⟨rfl, hbf⟩
    have HBF := Lib.hid (HB4.out.trans (hbf.mono HB4.out.size))
    clear hbf
    go_wp2
    go_ret
    exact ⟨rfl, HBF.out⟩
  ·
    refine wp_region_held_drew (S := fun W => Blk W w1.heap.size (nodeCells t1 k1) 25 ∧ Blk W w2.heap.size (nodeCells t2 k2) 25) (by kernel_rfl) (⟨HN2.out.drew, HM2.out.drew⟩) (fun hS => ?_)
    refine AnyH.one (i := 0) (o := ⟨some 28, _, _, _, _, _⟩) (by kernel_rfl) rfl (by rfl) (fun K hK => ?_)
    go_simp
    refine (wakes_any _ (show Tabs w3.drew from HT2.out.below (Below.refl _ _).drew HT2.out.size)).mono ?_
    rintro e w4 ⟨rfl, hb4⟩
    have HN4 := Lib.hid (HN2.out.drew.below hb4)
    have HM4 := Lib.hid (HM2.out.drew.below hb4)
    have HKA4 := Lib.hid (HKA2.out.drew.below hb4)
    have HKB4 := Lib.hid (HKB2.out.drew.below hb4)
    have HB4 := Lib.hid (HB2.out.drew.trans (hb4.mono HB2.out.drew.size))
    have HT4 := Lib.hid (HT.out.below HB4.out HT.out.size)
    clear hb4 hS
    have hS : Blk w4 w1.heap.size (nodeCells t1 k1) 25 ∧ Blk w4 w2.heap.size (nodeCells t2 k2) 25 := ⟨HN4.out, HM4.out⟩
    refine hK.out _ _ hS ?_
    clear hK K
    try simp only [Act.put, List.setIfInBounds_toArray, List.set_cons_zero, List.set_cons_succ]
    refine wpAnyH_take (i := 1) (oi := ⟨some 29, _, _, _, _, _⟩) (v := .bool false) rfl (by kernel_rfl) (by kernel_rfl) (by kernel_rfl) (fun _ _ _ h => h) (Or.inl ⟨by rfl, fun W _ => by go_simp⟩) hS ?_
    try simp only [Act.put, List.setIfInBounds_toArray, List.set_cons_zero, List.set_cons_succ]
    refine wpAnyH_take (i := 2) (oi := ⟨some 30, _, _, _, _, _⟩) (v := .bool false) rfl (by kernel_rfl) (by kernel_rfl) (by kernel_rfl) (fun _ _ _ h => h) (Or.inl ⟨by rfl, fun W _ => by go_simp⟩) hS ?_
    try simp only [Act.put, List.setIfInBounds_toArray, List.set_cons_zero, List.set_cons_succ]
    refine wpAnyH_take (i := 3) (oi := ⟨some 31, _, _, _, _, _⟩) (v := .int .i64 c1) rfl (by kernel_rfl) (by kernel_rfl) (by kernel_rfl) (fun _ _ _ h => h) (Or.inl ⟨by rfl, fun W _ => by go_simp⟩) hS ?_
    try simp only [Act.put, List.setIfInBounds_toArray, List.set_cons_zero, List.set_cons_succ]
    refine wpAnyH_take (i := 4) (oi := ⟨some 32, _, _, _, _, _⟩) (v := .bool false) rfl (by kernel_rfl) (by kernel_rfl) (by kernel_rfl) (fun _ _ _ h => h) (Or.inl ⟨by rfl, fun W _ => by go_simp⟩) hS ?_
    try simp only [Act.put, List.setIfInBounds_toArray, List.set_cons_zero, List.set_cons_succ]
    refine wpAnyH_take (i := 5) (oi := ⟨some 33, _, _, _, _, _⟩) (v := .bool false) rfl (by kernel_rfl) (by kernel_rfl) (by kernel_rfl) (fun _ _ _ h => h) (Or.inl ⟨by rfl, fun W _ => by go_simp⟩) hS ?_
    try simp only [Act.put, List.setIfInBounds_toArray, List.set_cons_zero, List.set_cons_succ]
    refine wpAnyH_take (i := 6) (oi := ⟨some 34, _, _, _, _, _⟩) (v := .bool false) rfl (by kernel_rfl) (by kernel_rfl) (by kernel_rfl) (fun _ _ _ h => h) (Or.inl ⟨by rfl, fun W _ => by go_simp⟩) hS ?_
    try simp only [Act.put, List.setIfInBounds_toArray, List.set_cons_zero, List.set_cons_succ]
    refine wpAnyH_take (i := 7) (oi := ⟨some 35, _, _, _, _, _⟩) (v := .int .i64 c2) rfl (by kernel_rfl) (by kernel_rfl) (by kernel_rfl) (fun _ _ _ h => h) (Or.inl ⟨by rfl, fun W _ => by go_simp⟩) hS ?_
    try simp only [Act.put, List.setIfInBounds_toArray, List.set_cons_zero, List.set_cons_succ]
    refine wpAnyH_take (i := 8) (oi := ⟨some 36, _, _, _, _, _⟩) (v := .bool false) rfl (by kernel_rfl) (by kernel_rfl) (by kernel_rfl) (fun _ _ _ h => h) (Or.inl ⟨by rfl, fun W _ => by go_simp⟩) hS ?_
    try simp only [Act.put, List.setIfInBounds_toArray, List.set_cons_zero, List.set_cons_succ]
    refine wpAnyH_take (i := 9) (oi := ⟨some 37, _, _, _, _, _⟩) (v := .bool false) rfl (by kernel_rfl) (by kernel_rfl) (by kernel_rfl) (fun _ _ _ h => h) (Or.inl ⟨by rfl, fun W _ => by go_simp⟩) hS ?_
    try simp only [Act.put, List.setIfInBounds_toArray, List.set_cons_zero, List.set_cons_succ]
    refine wpAnyH_take (i := 10) (oi := ⟨some 38, _, _, _, _, _⟩) (v := .bool false) rfl (by kernel_rfl) (by kernel_rfl) (by kernel_rfl) (fun _ _ _ h => h) (Or.inl ⟨by rfl, fun W _ => by go_simp⟩) hS ?_
    try simp only [Act.put, List.setIfInBounds_toArray, List.set_cons_zero, List.set_cons_succ]
    refine wpAnyH_take (i := 11) (oi := ⟨some 39, _, _, _, _, _⟩) (v := .string a) rfl (by kernel_rfl) (by kernel_rfl) (by kernel_rfl) (fun _ _ _ h => h) (Or.inl ⟨by rfl, fun W _ => by go_simp⟩) hS ?_
    try simp only [Act.put, List.setIfInBounds_toArray, List.set_cons_zero, List.set_cons_succ]
    refine wpAnyH_take (i := 12) (oi := ⟨some 40, _, _, _, _, _⟩) (v := .int .i64 a.size) rfl (by kernel_rfl) (by kernel_rfl) (by kernel_rfl) (fun _ _ _ h => h) (Or.inl ⟨by rfl, fun W _ => by go_simp⟩) hS ?_
    try simp only [Act.put, List.setIfInBounds_toArray, List.set_cons_zero, List.set_cons_succ]
    refine wpAnyH_take (i := 13) (oi := ⟨some 41, _, _, _, _, _⟩) (v := .string b) rfl (by kernel_rfl) (by kernel_rfl) (by kernel_rfl) (fun _ _ _ h => h) (Or.inl ⟨by rfl, fun W _ => by go_simp⟩) hS ?_
    try simp only [Act.put, List.setIfInBounds_toArray, List.set_cons_zero, List.set_cons_succ]
    refine wpAnyH_take (i := 14) (oi := ⟨some 42, _, _, _, _, _⟩) (v := .int .i64 b.size) rfl (by kernel_rfl) (by kernel_rfl) (by kernel_rfl) (fun _ _ _ h => h) (Or.inl ⟨by rfl, fun W _ => by go_simp⟩) hS ?_
    try simp only [Act.put, List.setIfInBounds_toArray, List.set_cons_zero, List.set_cons_succ]
    refine wpAnyH_take (i := 15) (oi := ⟨some 43, _, _, _, _, _⟩) (v := .int .i64 ((a.size : Int) + (b.size : Int))) rfl (by kernel_rfl) (by kernel_rfl) (by kernel_rfl) (fun _ _ _ h => h) (Or.inl ⟨by rfl, fun W _ => by go_simp⟩) hS ?_
    try simp only [Act.put, List.setIfInBounds_toArray, List.set_cons_zero, List.set_cons_succ]
    refine wpAnyH_take (i := 16) (oi := ⟨some 44, _, _, _, _, _⟩) (v := .int .i64 ((a.size : Int) + (b.size : Int) + 1)) rfl (by kernel_rfl) (by kernel_rfl) (by kernel_rfl) (fun _ _ _ h => h) (Or.inl ⟨by rfl, fun W _ => by go_simp⟩) hS ?_
    try simp only [Act.put, List.setIfInBounds_toArray, List.set_cons_zero, List.set_cons_succ]
    refine wpAnyH_take (i := 17) (oi := ⟨some 45, _, _, _, _, _⟩) (v := .bool false) rfl (by kernel_rfl) (by kernel_rfl) (by kernel_rfl) (fun _ _ _ h => h) (Or.inl ⟨by rfl, fun W _ => by go_simp⟩) hS ?_
    try simp only [Act.put, List.setIfInBounds_toArray, List.set_cons_zero, List.set_cons_succ]
    refine wpAnyH_take (i := 18) (oi := ⟨some 46, _, _, _, _, _⟩) (v := .bool false) rfl (by kernel_rfl) (by kernel_rfl) (by kernel_rfl) (fun _ _ _ h => h) (Or.inl ⟨by rfl, fun W _ => by go_simp⟩) hS ?_
    try simp only [Act.put, List.setIfInBounds_toArray, List.set_cons_zero, List.set_cons_succ]
    refine wpAnyH_take (i := 19) (oi := ⟨some 47, _, _, _, _, _⟩) (v := .bool false) rfl (by kernel_rfl) (by kernel_rfl) (by kernel_rfl) (fun _ _ _ h => h) (Or.inl ⟨by rfl, fun W _ => by go_simp⟩) hS ?_
    try simp only [Act.put, List.setIfInBounds_toArray, List.set_cons_zero, List.set_cons_succ]
    refine wpAnyH_take (i := 20) (oi := ⟨some 48, _, _, _, _, _⟩) (v := .agg #[.int .i64 (t1).kind, .string (t1).text, .int .i64 (t1).num, .int .i64 (t1).place, k1]) rfl (by kernel_rfl) (by kernel_rfl) (by kernel_rfl) (fun _ _ _ h => h) (yieldsIf_load_mid (cs := nodeCells (t1) (k1)) (by rfl) 25 (.tmp 5) rfl (w1.heap.size) (0) (by go_simp) _ (fun W hW j v hj => by rw [Nat.zero_add, (hW.1).cell j]; exact hj) Tryd.underlying25 rfl Tryd.sizeNode) hS ?_
    try simp only [Act.put, List.setIfInBounds_toArray, List.set_cons_zero, List.set_cons_succ]
    refine wpAnyH_take (i := 22) (oi := ⟨some 50, _, _, _, _, _⟩) (v := .agg #[.int .i64 (t2).kind, .string (t2).text, .int .i64 (t2).num, .int .i64 (t2).place, k2]) rfl (by kernel_rfl) (by kernel_rfl) (by kernel_rfl) (fun _ _ _ h => h) (yieldsIf_load_mid (cs := nodeCells (t2) (k2)) (by rfl) 25 (.tmp 8) rfl (w2.heap.size) (0) (by go_simp) _ (fun W hW j v hj => by rw [Nat.zero_add, (hW.2).cell j]; exact hj) Tryd.underlying25 rfl Tryd.sizeNode) hS ?_
    try simp only [Act.put, List.setIfInBounds_toArray, List.set_cons_zero, List.set_cons_succ]
    refine AnyH.one (i := 21) (o := ⟨some 49, _, _, _, _, _⟩) (by kernel_rfl) rfl (by rfl) (fun K hK => ?_)
    go_simp
    refine (size_any _ t1 (Nat.le_refl _) HKA4.out (by omega)).mono ?_
    rintro e w5 ⟨rfl, hb5⟩
    have HN5 := Lib.hid (HN4.out.below hb5)
    have HM5 := Lib.hid (HM4.out.below hb5)
    have HKA5 := Lib.hid (HKA4.out.below hb5)
    have HKB5 := Lib.hid (HKB4.out.below hb5)
    have HB5 := Lib.hid (HB4.out.trans (hb5.mono HB4.out.size))
    clear hb5 hS
    have hS : Blk w5 w1.heap.size (nodeCells t1 k1) 25 ∧ Blk w5 w2.heap.size (nodeCells t2 k2) 25 := ⟨HN5.out, HM5.out⟩
    refine hK.out _ _ hS ?_
    clear hK K
    try simp only [Act.put, List.setIfInBounds_toArray, List.set_cons_zero, List.set_cons_succ]
    refine AnyH.one (i := 23) (o := ⟨some 51, _, _, _, _, _⟩) (by kernel_rfl) rfl (by rfl) (fun K hK => ?_)
    go_simp
    refine (size_any _ t2 (Nat.le_refl _) HKB5.out (by omega)).mono ?_
    rintro e w6 ⟨rfl, hb6⟩
    have HN6 := Lib.hid (HN5.out.below hb6)
    have HM6 := Lib.hid (HM5.out.below hb6)
    have HKA6 := Lib.hid (HKA5.out.below hb6)
    have HKB6 := Lib.hid (HKB5.out.below hb6)
    have HB6 := Lib.hid (HB5.out.trans (hb6.mono HB5.out.size))
    have HT6 := Lib.hid (HT.out.below HB6.out HT.out.size)
    clear hb6 hS
    have hS : Blk w6 w1.heap.size (nodeCells t1 k1) 25 ∧ Blk w6 w2.heap.size (nodeCells t2 k2) 25 := ⟨HN6.out, HM6.out⟩
    refine hK.out _ _ hS ?_
    clear hK K
    try simp only [Act.put, List.setIfInBounds_toArray, List.set_cons_zero, List.set_cons_succ]
    refine wpAnyH_take (i := 24) (oi := ⟨some 52, _, _, _, _, _⟩) (v := .int .i64 ((t1.size : Int) + (t2.size : Int))) rfl (by kernel_rfl) (by kernel_rfl) (by kernel_rfl) (fun _ _ _ h => h) (Or.inl ⟨by rfl, fun W _ => by go_simp⟩) hS ?_
    try simp only [Act.put, List.setIfInBounds_toArray, List.set_cons_zero, List.set_cons_succ]
    refine wpAnyH_take (i := 25) (oi := ⟨some 53, _, _, _, _, _⟩) (v := .int .i64 ((t1.size : Int) + (t2.size : Int) - 1)) rfl (by kernel_rfl) (by kernel_rfl) (by kernel_rfl) (fun _ _ _ h => h) (Or.inl ⟨by rfl, fun W _ => by go_simp⟩) hS ?_
    try simp only [Act.put, List.setIfInBounds_toArray, List.set_cons_zero, List.set_cons_succ]
    refine wpAnyH_take (i := 26) (oi := ⟨some 54, _, _, _, _, _⟩) (v := .bool true) rfl (by kernel_rfl) (by kernel_rfl) (by kernel_rfl) (fun _ _ _ h => h) (Or.inl ⟨by rfl, fun W _ => by go_simp⟩) hS ?_
    try simp only [Act.put, List.setIfInBounds_toArray, List.set_cons_zero, List.set_cons_succ]
    refine wpAnyH_take (i := 27) (oi := ⟨some 55, _, _, _, _, _⟩) (v := .bool true) rfl (by kernel_rfl) (by kernel_rfl) (by kernel_rfl) (fun _ _ _ h => h) (Or.inl ⟨by rfl, fun W _ => by go_simp⟩) hS ?_
    try simp only [Act.put, List.setIfInBounds_toArray, List.set_cons_zero, List.set_cons_succ]
    refine wpAnyH_done (by kernel_rfl) ?_ _
    clear hS
    go_wp2_with fail
    refine (wakes_any _ HT6.out).mono ?_
    rintro e wf ⟨rfl, hbf⟩
    have HBF := Lib.hid (HB6.out.trans (hbf.mono HB6.out.size))
    clear hbf
    go_wp2
    go_ret
    exact ⟨rfl, HBF.out⟩
  ·
    refine wp_region_held_drew (S := fun W => Blk W w1.heap.size (nodeCells t1 k1) 25 ∧ Blk W w2.heap.size (nodeCells t2 k2) 25) (by kernel_rfl) (⟨HN2.out.drew, HM2.out.drew⟩) (fun hS => ?_)
    refine AnyH.one (i := 0) (o := ⟨some 28, _, _, _, _, _⟩) (by kernel_rfl) rfl (by rfl) (fun K hK => ?_)
    go_simp
    refine (wakes_any _ (show Tabs w3.drew from HT2.out.below (Below.refl _ _).drew HT2.out.size)).mono ?_
    rintro e w4 ⟨rfl, hb4⟩
    have HN4 := Lib.hid (HN2.out.drew.below hb4)
    have HM4 := Lib.hid (HM2.out.drew.below hb4)
    have HKA4 := Lib.hid (HKA2.out.drew.below hb4)
    have HKB4 := Lib.hid (HKB2.out.drew.below hb4)
    have HB4 := Lib.hid (HB2.out.drew.trans (hb4.mono HB2.out.drew.size))
    have HT4 := Lib.hid (HT.out.below HB4.out HT.out.size)
    clear hb4 hS
    have hS : Blk w4 w1.heap.size (nodeCells t1 k1) 25 ∧ Blk w4 w2.heap.size (nodeCells t2 k2) 25 := ⟨HN4.out, HM4.out⟩
    refine hK.out _ _ hS ?_
    clear hK K
    try simp only [Act.put, List.setIfInBounds_toArray, List.set_cons_zero, List.set_cons_succ]
    refine wpAnyH_take (i := 1) (oi := ⟨some 29, _, _, _, _, _⟩) (v := .bool false) rfl (by kernel_rfl) (by kernel_rfl) (by kernel_rfl) (fun _ _ _ h => h) (Or.inl ⟨by rfl, fun W _ => by go_simp⟩) hS ?_
    try simp only [Act.put, List.setIfInBounds_toArray, List.set_cons_zero, List.set_cons_succ]
    refine wpAnyH_take (i := 2) (oi := ⟨some 30, _, _, _, _, _⟩) (v := .bool false) rfl (by kernel_rfl) (by kernel_rfl) (by kernel_rfl) (fun _ _ _ h => h) (Or.inl ⟨by rfl, fun W _ => by go_simp⟩) hS ?_
    try simp only [Act.put, List.setIfInBounds_toArray, List.set_cons_zero, List.set_cons_succ]
    refine wpAnyH_take (i := 3) (oi := ⟨some 31, _, _, _, _, _⟩) (v := .int .i64 c1) rfl (by kernel_rfl) (by kernel_rfl) (by kernel_rfl) (fun _ _ _ h => h) (Or.inl ⟨by rfl, fun W _ => by go_simp⟩) hS ?_
    try simp only [Act.put, List.setIfInBounds_toArray, List.set_cons_zero, List.set_cons_succ]
    refine wpAnyH_take (i := 4) (oi := ⟨some 32, _, _, _, _, _⟩) (v := .bool false) rfl (by kernel_rfl) (by kernel_rfl) (by kernel_rfl) (fun _ _ _ h => h) (Or.inl ⟨by rfl, fun W _ => by go_simp⟩) hS ?_
    try simp only [Act.put, List.setIfInBounds_toArray, List.set_cons_zero, List.set_cons_succ]
    refine wpAnyH_take (i := 5) (oi := ⟨some 33, _, _, _, _, _⟩) (v := .bool false) rfl (by kernel_rfl) (by kernel_rfl) (by kernel_rfl) (fun _ _ _ h => h) (Or.inl ⟨by rfl, fun W _ => by go_simp⟩) hS ?_
    try simp only [Act.put, List.setIfInBounds_toArray, List.set_cons_zero, List.set_cons_succ]
    refine wpAnyH_take (i := 6) (oi := ⟨some 34, _, _, _, _, _⟩) (v := .bool false) rfl (by kernel_rfl) (by kernel_rfl) (by kernel_rfl) (fun _ _ _ h => h) (Or.inl ⟨by rfl, fun W _ => by go_simp⟩) hS ?_
    try simp only [Act.put, List.setIfInBounds_toArray, List.set_cons_zero, List.set_cons_succ]
    refine wpAnyH_take (i := 7) (oi := ⟨some 35, _, _, _, _, _⟩) (v := .int .i64 c2) rfl (by kernel_rfl) (by kernel_rfl) (by kernel_rfl) (fun _ _ _ h => h) (Or.inl ⟨by rfl, fun W _ => by go_simp⟩) hS ?_
    try simp only [Act.put, List.setIfInBounds_toArray, List.set_cons_zero, List.set_cons_succ]
    refine wpAnyH_take (i := 8) (oi := ⟨some 36, _, _, _, _, _⟩) (v := .bool false) rfl (by kernel_rfl) (by kernel_rfl) (by kernel_rfl) (fun _ _ _ h => h) (Or.inl ⟨by rfl, fun W _ => by go_simp⟩) hS ?_
    try simp only [Act.put, List.setIfInBounds_toArray, List.set_cons_zero, List.set_cons_succ]
    refine wpAnyH_take (i := 9) (oi := ⟨some 37, _, _, _, _, _⟩) (v := .bool false) rfl (by kernel_rfl) (by kernel_rfl) (by kernel_rfl) (fun _ _ _ h => h) (Or.inl ⟨by rfl, fun W _ => by go_simp⟩) hS ?_
    try simp only [Act.put, List.setIfInBounds_toArray, List.set_cons_zero, List.set_cons_succ]
    refine wpAnyH_take (i := 10) (oi := ⟨some 38, _, _, _, _, _⟩) (v := .bool false) rfl (by kernel_rfl) (by kernel_rfl) (by kernel_rfl) (fun _ _ _ h => h) (Or.inl ⟨by rfl, fun W _ => by go_simp⟩) hS ?_
    try simp only [Act.put, List.setIfInBounds_toArray, List.set_cons_zero, List.set_cons_succ]
    refine wpAnyH_take (i := 11) (oi := ⟨some 39, _, _, _, _, _⟩) (v := .string a) rfl (by kernel_rfl) (by kernel_rfl) (by kernel_rfl) (fun _ _ _ h => h) (Or.inl ⟨by rfl, fun W _ => by go_simp⟩) hS ?_
    try simp only [Act.put, List.setIfInBounds_toArray, List.set_cons_zero, List.set_cons_succ]
    refine wpAnyH_take (i := 12) (oi := ⟨some 40, _, _, _, _, _⟩) (v := .int .i64 a.size) rfl (by kernel_rfl) (by kernel_rfl) (by kernel_rfl) (fun _ _ _ h => h) (Or.inl ⟨by rfl, fun W _ => by go_simp⟩) hS ?_
    try simp only [Act.put, List.setIfInBounds_toArray, List.set_cons_zero, List.set_cons_succ]
    refine wpAnyH_take (i := 13) (oi := ⟨some 41, _, _, _, _, _⟩) (v := .string b) rfl (by kernel_rfl) (by kernel_rfl) (by kernel_rfl) (fun _ _ _ h => h) (Or.inl ⟨by rfl, fun W _ => by go_simp⟩) hS ?_
    try simp only [Act.put, List.setIfInBounds_toArray, List.set_cons_zero, List.set_cons_succ]
    refine wpAnyH_take (i := 14) (oi := ⟨some 42, _, _, _, _, _⟩) (v := .int .i64 b.size) rfl (by kernel_rfl) (by kernel_rfl) (by kernel_rfl) (fun _ _ _ h => h) (Or.inl ⟨by rfl, fun W _ => by go_simp⟩) hS ?_
    try simp only [Act.put, List.setIfInBounds_toArray, List.set_cons_zero, List.set_cons_succ]
    refine wpAnyH_take (i := 15) (oi := ⟨some 43, _, _, _, _, _⟩) (v := .int .i64 ((a.size : Int) + (b.size : Int))) rfl (by kernel_rfl) (by kernel_rfl) (by kernel_rfl) (fun _ _ _ h => h) (Or.inl ⟨by rfl, fun W _ => by go_simp⟩) hS ?_
    try simp only [Act.put, List.setIfInBounds_toArray, List.set_cons_zero, List.set_cons_succ]
    refine wpAnyH_take (i := 16) (oi := ⟨some 44, _, _, _, _, _⟩) (v := .int .i64 ((a.size : Int) + (b.size : Int) + 1)) rfl (by kernel_rfl) (by kernel_rfl) (by kernel_rfl) (fun _ _ _ h => h) (Or.inl ⟨by rfl, fun W _ => by go_simp⟩) hS ?_
    try simp only [Act.put, List.setIfInBounds_toArray, List.set_cons_zero, List.set_cons_succ]
    refine wpAnyH_take (i := 17) (oi := ⟨some 45, _, _, _, _, _⟩) (v := .bool false) rfl (by kernel_rfl) (by kernel_rfl) (by kernel_rfl) (fun _ _ _ h => h) (Or.inl ⟨by rfl, fun W _ => by go_simp⟩) hS ?_
    try simp only [Act.put, List.setIfInBounds_toArray, List.set_cons_zero, List.set_cons_succ]
    refine wpAnyH_take (i := 18) (oi := ⟨some 46, _, _, _, _, _⟩) (v := .bool false) rfl (by kernel_rfl) (by kernel_rfl) (by kernel_rfl) (fun _ _ _ h => h) (Or.inl ⟨by rfl, fun W _ => by go_simp⟩) hS ?_
    try simp only [Act.put, List.setIfInBounds_toArray, List.set_cons_zero, List.set_cons_succ]
    refine wpAnyH_take (i := 19) (oi := ⟨some 47, _, _, _, _, _⟩) (v := .bool false) rfl (by kernel_rfl) (by kernel_rfl) (by kernel_rfl) (fun _ _ _ h => h) (Or.inl ⟨by rfl, fun W _ => by go_simp⟩) hS ?_
    try simp only [Act.put, List.setIfInBounds_toArray, List.set_cons_zero, List.set_cons_succ]
    refine wpAnyH_take (i := 20) (oi := ⟨some 48, _, _, _, _, _⟩) (v := .agg #[.int .i64 (t1).kind, .string (t1).text, .int .i64 (t1).num, .int .i64 (t1).place, k1]) rfl (by kernel_rfl) (by kernel_rfl) (by kernel_rfl) (fun _ _ _ h => h) (yieldsIf_load_mid (cs := nodeCells (t1) (k1)) (by rfl) 25 (.tmp 5) rfl (w1.heap.size) (0) (by go_simp) _ (fun W hW j v hj => by rw [Nat.zero_add, (hW.1).cell j]; exact hj) Tryd.underlying25 rfl Tryd.sizeNode) hS ?_
    try simp only [Act.put, List.setIfInBounds_toArray, List.set_cons_zero, List.set_cons_succ]
    refine wpAnyH_take (i := 22) (oi := ⟨some 50, _, _, _, _, _⟩) (v := .agg #[.int .i64 (t2).kind, .string (t2).text, .int .i64 (t2).num, .int .i64 (t2).place, k2]) rfl (by kernel_rfl) (by kernel_rfl) (by kernel_rfl) (fun _ _ _ h => h) (yieldsIf_load_mid (cs := nodeCells (t2) (k2)) (by rfl) 25 (.tmp 8) rfl (w2.heap.size) (0) (by go_simp) _ (fun W hW j v hj => by rw [Nat.zero_add, (hW.2).cell j]; exact hj) Tryd.underlying25 rfl Tryd.sizeNode) hS ?_
    try simp only [Act.put, List.setIfInBounds_toArray, List.set_cons_zero, List.set_cons_succ]
    refine AnyH.one (i := 21) (o := ⟨some 49, _, _, _, _, _⟩) (by kernel_rfl) rfl (by rfl) (fun K hK => ?_)
    go_simp
    refine (size_any _ t1 (Nat.le_refl _) HKA4.out (by omega)).mono ?_
    rintro e w5 ⟨rfl, hb5⟩
    have HN5 := Lib.hid (HN4.out.below hb5)
    have HM5 := Lib.hid (HM4.out.below hb5)
    have HKA5 := Lib.hid (HKA4.out.below hb5)
    have HKB5 := Lib.hid (HKB4.out.below hb5)
    have HB5 := Lib.hid (HB4.out.trans (hb5.mono HB4.out.size))
    clear hb5 hS
    have hS : Blk w5 w1.heap.size (nodeCells t1 k1) 25 ∧ Blk w5 w2.heap.size (nodeCells t2 k2) 25 := ⟨HN5.out, HM5.out⟩
    refine hK.out _ _ hS ?_
    clear hK K
    try simp only [Act.put, List.setIfInBounds_toArray, List.set_cons_zero, List.set_cons_succ]
    refine AnyH.one (i := 23) (o := ⟨some 51, _, _, _, _, _⟩) (by kernel_rfl) rfl (by rfl) (fun K hK => ?_)
    go_simp
    refine (size_any _ t2 (Nat.le_refl _) HKB5.out (by omega)).mono ?_
    rintro e w6 ⟨rfl, hb6⟩
    have HN6 := Lib.hid (HN5.out.below hb6)
    have HM6 := Lib.hid (HM5.out.below hb6)
    have HKA6 := Lib.hid (HKA5.out.below hb6)
    have HKB6 := Lib.hid (HKB5.out.below hb6)
    have HB6 := Lib.hid (HB5.out.trans (hb6.mono HB5.out.size))
    have HT6 := Lib.hid (HT.out.below HB6.out HT.out.size)
    clear hb6 hS
    have hS : Blk w6 w1.heap.size (nodeCells t1 k1) 25 ∧ Blk w6 w2.heap.size (nodeCells t2 k2) 25 := ⟨HN6.out, HM6.out⟩
    refine hK.out _ _ hS ?_
    clear hK K
    try simp only [Act.put, List.setIfInBounds_toArray, List.set_cons_zero, List.set_cons_succ]
    refine wpAnyH_take (i := 24) (oi := ⟨some 52, _, _, _, _, _⟩) (v := .int .i64 ((t1.size : Int) + (t2.size : Int))) rfl (by kernel_rfl) (by kernel_rfl) (by kernel_rfl) (fun _ _ _ h => h) (Or.inl ⟨by rfl, fun W _ => by go_simp⟩) hS ?_
    try simp only [Act.put, List.setIfInBounds_toArray, List.set_cons_zero, List.set_cons_succ]
    refine wpAnyH_take (i := 25) (oi := ⟨some 53, _, _, _, _, _⟩) (v := .int .i64 ((t1.size : Int) + (t2.size : Int) - 1)) rfl (by kernel_rfl) (by kernel_rfl) (by kernel_rfl) (fun _ _ _ h => h) (Or.inl ⟨by rfl, fun W _ => by go_simp⟩) hS ?_
    try simp only [Act.put, List.setIfInBounds_toArray, List.set_cons_zero, List.set_cons_succ]
    refine wpAnyH_take (i := 26) (oi := ⟨some 54, _, _, _, _, _⟩) (v := .bool false) rfl (by kernel_rfl) (by kernel_rfl) (by kernel_rfl) (fun _ _ _ h => h) (Or.inl ⟨by rfl, fun W _ => by go_simp⟩) hS ?_
    try simp only [Act.put, List.setIfInBounds_toArray, List.set_cons_zero, List.set_cons_succ]
    refine wpAnyH_take (i := 27) (oi := ⟨some 55, _, _, _, _, _⟩) (v := .bool false) rfl (by kernel_rfl) (by kernel_rfl) (by kernel_rfl) (fun _ _ _ h => h) (Or.inl ⟨by rfl, fun W _ => by go_simp⟩) hS ?_
    try simp only [Act.put, List.setIfInBounds_toArray, List.set_cons_zero, List.set_cons_succ]
    refine wpAnyH_done (by kernel_rfl) ?_ _
    clear hS
    have hc1 : c1 = 0 := by simpa using hw1
    have hc2 : c2 = 0 := by simpa using hw2
    have hr1 := parse_root HQ1.out
    have hr2 := parse_root HQ2.out
    have hlen3 : ¬ 16384 < (a.size : Int) + (b.size : Int) + 1 := by simpa using hw3
    have hsz4 : ¬ 4096 < (t1.size : Int) + (t2.size : Int) - 1 := by simpa using hw4
    obtain ⟨zs, r3, hj, hTs⟩ := parse_joined (xs := t1.kids) (ys := t2.kids) (p := p1) (q := p2) (by rw [HQ1.out, hc1]; congr 1) (by rw [HQ2.out, hc2]; congr 1) (by omega) (by rw [← hr1, ← hr2]; omega)
    have hz3 : (T.mk 0 e0 0 0 zs).size ≤ 4096 := by have := (parse_good (joinB a b)).2; rw [hj] at this; exact this
    have HTS := Lib.hid (TsR.symm1 hTs)
    have hln : zs.length = t1.kids.length + t2.kids.length := by have := TsR.len hTs; rw [List.length_append] at this; exact this.symm
    have hkl1 := kids_len t1
    have hkl2 := kids_len t2
    obtain ⟨t3, ht3⟩ : ∃ t3, T.mk 0 e0 0 0 zs = t3 := ⟨_, rfl⟩
    have HZS := Lib.hid (show t3.kids = zs by rw [← ht3]; rfl)
    rw [ht3] at hz3 hj
    have HQ3 := Lib.hid (show parseB (a ++ ⟨#[10]⟩ ++ b) = (t3, r3, 0) from hj)
    have HJS := Lib.hid (show (a ++ ⟨#[10]⟩ ++ b).size ≤ maxLen by have := joinB_size a b; unfold maxLen; have h : (joinB a b).size = (a ++ ⟨#[10]⟩ ++ b).size := rfl; omega)
    have hl3 : t3.kids.length = t1.kids.length + t2.kids.length := by rw [HZS.out]; exact hln
    have hlt : ((t3.kids.length : Int) != (t1.kids.length : Int) + (t2.kids.length : Int)) = false := by rw [hl3]; simp
    have HL3 := Lib.hid hl3
    have hl3b : t3.kids.length ≤ 9000 := by omega
    clear hj hTs hln ht3 hr1 hr2 hw1 hw2 hw3 hw4 s1 s2 s3 s4 hl3
    subst hc1
    subst hc2
    obtain ⟨sa1, sc1, rfl⟩ := HKA6.out.len
    obtain ⟨sa2, sc2, rfl⟩ := HKB6.out.len
    clear HKA2 HKB2 HN2 HM2 HKA4 HKB4 HN4 HM4 HKA5 HKB5 HN5 HM5 HO1 HO2
    go_wp2_with fail
    ((with_reducible refine (parse_any _ w6 HJS.out HT6.out).mono ?_))
    rw [HQ3.out]
    rintro e w7 ⟨k3, rfl, hk3, hb7⟩
    have HK7 := Lib.hid (show KAt 25 w7 t3.kids _ k3 from hk3)
    have HO3 := Lib.hid HK7.out.one
    have HN8 := Lib.hid ((HN6.out.below hb7).alloc (.cells (nodeCells t3 k3).toArray 25))
    have HM8 := Lib.hid ((HM6.out.below hb7).alloc (.cells (nodeCells t3 k3).toArray 25))
    have HX8 := Lib.hid (Blk.new w7 (nodeCells t3 k3) 25)
    have HKA8 := Lib.hid ((HKA6.out.below hb7).alloc (.cells (nodeCells t3 k3).toArray 25))
    have HKB8 := Lib.hid ((HKB6.out.below hb7).alloc (.cells (nodeCells t3 k3).toArray 25))
    have HKC8 := Lib.hid (HK7.out.alloc (.cells (nodeCells t3 k3).toArray 25))
    have HB8 := Lib.hid ((HB6.out.trans (hb7.mono HB6.out.size)).alloc (Nat.le_trans HB6.out.size hb7.size) (.cells (nodeCells t3 k3).toArray 25))
    clear hk3 hb7 HK7
    unfold NodeV
    obtain ⟨sa3, sc3, rfl⟩ := HKC8.out.len
    have y1 := HN8.out.cell 4
    have y2 := HM8.out.cell 4
    have y3 := HX8.out.cell 4
    have hb1 := HN8.out.lt
    have hb2 := HM8.out.lt
    have hb3 := HX8.out.lt
    go_wp2_with ((with_reducible refine at_st 25 (.tmp 11) ?_); refine wpList_store_new rfl 25 (.tmp 11) (.tmp 63) rfl (nodeCells t3 (.slice sa3 t3.kids.length sc3)) (old := zeroNodeCells) rfl rfl Tryd.sizeNode rfl (nodeCells_one _ _ HO3.out) ?_; refine at_world (w7.alloc (.cells (nodeCells t3 (.slice sa3 t3.kids.length sc3)).toArray 25)) ?_; generalize hw8 : w7.alloc (.cells (nodeCells t3 (.slice sa3 t3.kids.length sc3)).toArray 25) = w8 at HN8 HM8 HX8 HKA8 HKB8 HKC8 HB8 y1 y2 y3 hb1 hb2 hb3 ⊢; clear hw8; have x1 : w8.cell? ⟨w1.heap.size, 4, none⟩ = some (.slice sa1 t1.kids.length sc1) := y1; have x2 : w8.cell? ⟨w2.heap.size, 4, none⟩ = some (.slice sa2 t2.kids.length sc2) := y2; have x3 : w8.cell? ⟨w7.heap.size, 4, none⟩ = some (.slice sa3 t3.kids.length sc3) := y3; clear y1 y2 y3)
    obtain ⟨i0, z0, I⟩ := Tryd.nodeInfo
    clear x1 x2 x3
    refine wp_region_held_drew (S := fun W => Blk W w1.heap.size (nodeCells t1 (.slice sa1 t1.kids.length sc1)) 25 ∧ Blk W w2.heap.size (nodeCells t2 (.slice sa2 t2.kids.length sc2)) 25) (by kernel_rfl) (⟨HN8.out.drew, HM8.out.drew⟩) (fun hS => ?_)
    refine wpAnyH_take (i := 0) (oi := ⟨some 81, _, _, _, _, _⟩) (v := .pointer (some ⟨w1.heap.size, 4, none⟩)) rfl (by kernel_rfl) (by kernel_rfl) (by kernel_rfl) (fun _ _ _ h => h) (Or.inl ⟨by rfl, fun W _ => by go_simp⟩) hS ?_
    try simp only [Act.put, List.setIfInBounds_toArray, List.set_cons_zero, List.set_cons_succ]
    refine wpAnyH_take (i := 1) (oi := ⟨some 82, _, _, _, _, _⟩) (v := .slice sa1 t1.kids.length sc1) rfl (by kernel_rfl) (by kernel_rfl) (by kernel_rfl) (fun _ _ _ h => h) (Or.inl ⟨by rfl, fun W hW => by have hcx : W.cell? ⟨w1.heap.size, 4, none⟩ = some (.slice sa1 t1.kids.length sc1) := hW.1.cell 4; go_simp⟩) hS ?_
    try simp only [Act.put, List.setIfInBounds_toArray, List.set_cons_zero, List.set_cons_succ]
    refine wpAnyH_take (i := 3) (oi := ⟨some 84, _, _, _, _, _⟩) (v := .pointer (some ⟨w2.heap.size, 4, none⟩)) rfl (by kernel_rfl) (by kernel_rfl) (by kernel_rfl) (fun _ _ _ h => h) (Or.inl ⟨by rfl, fun W _ => by go_simp⟩) hS ?_
    try simp only [Act.put, List.setIfInBounds_toArray, List.set_cons_zero, List.set_cons_succ]
    refine wpAnyH_take (i := 4) (oi := ⟨some 85, _, _, _, _, _⟩) (v := .slice sa2 t2.kids.length sc2) rfl (by kernel_rfl) (by kernel_rfl) (by kernel_rfl) (fun _ _ _ h => h) (Or.inl ⟨by rfl, fun W hW => by have hcx : W.cell? ⟨w2.heap.size, 4, none⟩ = some (.slice sa2 t2.kids.length sc2) := hW.2.cell 4; go_simp⟩) hS ?_
    try simp only [Act.put, List.setIfInBounds_toArray, List.set_cons_zero, List.set_cons_succ]
    refine wpAnyH_take (i := 7) (oi := ⟨some 88, _, _, _, _, _⟩) (v := .int .i64 0) rfl (by kernel_rfl) (by kernel_rfl) (by kernel_rfl) (fun _ _ _ h => h) (Or.inl ⟨by rfl, fun W _ => by go_simp⟩) hS ?_
    try simp only [Act.put, List.setIfInBounds_toArray, List.set_cons_zero, List.set_cons_succ]
    refine AnyH.one (i := 2) (o := ⟨some 83, _, _, _, _, _⟩) (by kernel_rfl) rfl (by rfl) (fun K hK => ?_)
    refine wp_append_kids2 (S := fun _ => True) (v := .slice none 0 0) _ (.tmp 82) rfl I (ks := []) rfl (KAt.nil _ _ _) rfl (HKA8.out.drew.mono (fun b _ _ => ⟨trivial, by simp [Value.ownBlock]⟩)) trivial (by simp; omega) ?_
    intro v1 w9 hk9 hg9 ho9
    rw [List.nil_append] at hk9
    have ho9' : v1.ownBlock = none ∨ v1.ownBlock = some w8.heap.size := ho9
    have hn9 : ∀ g, g < w8.heap.size → some g ≠ v1.ownBlock := fun g hg e => by rcases ho9' with h | h <;> rw [h] at e <;> simp at e; omega
    have hs9 : w8.heap.size ≤ w9.heap.size := hg9.size
    have HN9 := Lib.hid (HN8.out.drew.grown hg9 (by simp [Value.ownBlock]))
    have HM9 := Lib.hid (HM8.out.drew.grown hg9 (by simp [Value.ownBlock]))
    have HX9 := Lib.hid (HX8.out.drew.grown hg9 (by simp [Value.ownBlock]))
    have HKB9 := Lib.hid (HKB8.out.drew.keep (S' := fun b => True ∧ v1.ownBlock ≠ some b) (w' := w9) (fun b _ hl => ⟨⟨trivial, fun e => hn9 b hl e.symm⟩, hg9.block b hl (by simp [Value.ownBlock])⟩))
    have HKC9 := Lib.hid (HKC8.out.drew.keep (S' := fun b => b < w8.heap.size) (w' := w9) (fun b _ hl => ⟨hl, hg9.block b hl (by simp [Value.ownBlock])⟩))
    have HB9 := Lib.hid (HB8.out.drew.grown hg9 HB8.out.size (by simp [Value.ownBlock]))
    have HK9 := Lib.hid hk9
    clear hk9 hg9 ho9
    refine hK.out _ _ ⟨HN9.out, HM9.out⟩ ?_
    clear hK K
    try simp only [Act.put, List.setIfInBounds_toArray, List.set_cons_zero, List.set_cons_succ]
    refine AnyH.one (i := 5) (o := ⟨some 86, _, _, _, _, _⟩) (by kernel_rfl) rfl (by rfl) (fun K hK => ?_)
    refine wp_append_kids2 (S := fun _ => True) (v := v1) (.tmp 83) (.tmp 85) rfl I rfl HK9.out rfl HKB9.out trivial (by omega) ?_
    intro v2 w10 hk10 hg10 ho10
    have HN10 := Lib.hid (HN9.out.grown hg10 (hn9 _ hb1))
    have HM10 := Lib.hid (HM9.out.grown hg10 (hn9 _ hb2))
    have HX10 := Lib.hid (HX9.out.grown hg10 (hn9 _ hb3))
    have HKC10 := Lib.hid (HKC9.out.keep (S' := fun _ => True) (w' := w10) (fun b hb hl => ⟨trivial, hg10.block b hl (hn9 b hb)⟩))
    have HB10 := Lib.hid (HB9.out.grown hg10 HB9.out.size (fun k hk => by rcases ho9' with h | h <;> rw [h] at hk <;> cases hk; exact HB8.out.size))
    have hlt10 := HX10.out.lt
    clear hg10 ho10 hn9 ho9'
    have hLs : sizes (t1.kids ++ t2.kids) ≤ 8192 := by
      rw [sizes_append]
      have e1 : t1.size = 1 + sizes t1.kids := by cases t1; rw [size_mk]; rfl
      have e2 : t2.size = 1 + sizes t2.kids := by cases t2; rw [size_mk]; rfl
      omega
    have hLl : (t1.kids ++ t2.kids).length = t3.kids.length := by rw [List.length_append]; exact HL3.out.symm
    have HTR := Lib.hid (show TsR (fun _ _ => True) t3.kids (t1.kids ++ t2.kids) by rw [HZS.out]; exact HTS.out)
    generalize t1.kids ++ t2.kids = L at hk10 HTR hLs hLl
    have HK10 := Lib.hid hk10
    have HLL := Lib.hid hLl
    have hL9 : L.length ≤ 9000 := by omega
    obtain ⟨sa4, sc4, rfl⟩ := hk10.len
    clear hk10 hLl
    refine hK.out _ _ ⟨HN10.out, HM10.out⟩ ?_
    clear hK K
    try simp only [Act.put, List.setIfInBounds_toArray, List.set_cons_zero, List.set_cons_succ]
    have hS : Blk w10 w1.heap.size (nodeCells t1 (.slice sa1 t1.kids.length sc1)) 25 ∧ Blk w10 w2.heap.size (nodeCells t2 (.slice sa2 t2.kids.length sc2)) 25 := ⟨HN10.out, HM10.out⟩
    refine wpAnyH_take (i := 6) (oi := ⟨some 87, _, _, _, _, _⟩) (v := .int .i64 L.length) rfl (by kernel_rfl) (by kernel_rfl) (by kernel_rfl) (fun _ _ _ h => h) (Or.inl ⟨by rfl, fun W _ => by go_simp⟩) hS ?_
    try simp only [Act.put, List.setIfInBounds_toArray, List.set_cons_zero, List.set_cons_succ]
    refine wpAnyH_done (by kernel_rfl) ?_ _
    clear hS HN8 HM8 HX8 HKA8 HKB8 HKC8 HN9 HM9 HX9 HKB9 HKC9 HK9 HN10 HM10 HB8 HB9 HN6 HM6 HKA6 HKB6
    rcases HK10.out.form with ⟨hv4, hnil⟩ | ⟨g4, cap4, hv4, hg4, hcap4, hcm4, hget4⟩
    · subst hnil
      cases hv4
      go_wp2_with fail
      refine wp_loop_rounds 1 ?_
      rw [rounds_succ]
      go_wp2_with fail
      go_ret
      exact ⟨rfl, HB10.out⟩
    · cases hv4
      have HG4 := Lib.hid hget4
      have HHG4 := Lib.hid hg4
      have HCAP4 := Lib.hid hcap4
      unfold maxLen at hcm4
      clear hget4 hg4 hcap4
      go_wp2_with fail
      go_loopg [88] L.length (fun gk i wr => JRel w10 w7.heap.size t3 (.slice sa3 t3.kids.length sc3) L.length gk i wr)
      case atStart => exact ⟨0, by omega, by omega, rfl, ⟨Below.refl _ _, HX10.out⟩⟩
      case round =>
        obtain ⟨k, hk, hgk, rfl, hst⟩ := hrel
        have HS := Lib.hid hst
        have hzw := hst.blk.lt
        clear hst
        by_cases hlt : k < L.length
        · have hlt3 : k < t3.kids.length := by have := HLL.out; omega
          obtain ⟨u1, hr1, hT1⟩ := HG4.out k L[k] (List.getElem?_eq_getElem hlt)
          have hne := List.getElem?_eq_getElem hlt
          have hne3 := List.getElem?_eq_getElem hlt3
          obtain ⟨g5, cap5, hv5, hg5, hcap5, hcm5, hget5⟩ := HKC10.out.some1 hne3
          cases hv5
          obtain ⟨u5, hr5, hT5⟩ := hget5 k t3.kids[k] hne3
          generalize L[k] = tk at hr1 hT1 hne
          generalize t3.kids[k] = zk at hr5 hT5 hne3
          have HR1 := Lib.hid (rangeAt_below hr1 HS.out.below HHG4.out)
          have HR5 := Lib.hid (rangeAt_below hr5 HS.out.below hg5)
          have HT1 := Lib.hid (hT1.below HS.out.below)
          have HT5 := Lib.hid (hT5.below HS.out.below)
          have HAL := Lib.hid (TR.alike (b := false) (fun h => by cases h) (TsR.get HTR.out hne3 hne))
          have HZK := Lib.hid (show zk.size ≤ 4096 by have h1 := sizes_mem hne3; have e3 : t3.size = 1 + sizes t3.kids := (by cases t3; rw [size_mk]; rfl); omega)
          have HZT := Lib.hid (show tk.size ≤ 8192 by have h1 := sizes_mem hne; omega)
          have hcap4 := HCAP4.out
          have hg5' : g5 < wr.heap.size := Nat.lt_of_lt_of_le hg5 HS.out.below.size
          unfold maxLen at hcm5
          have i1 : (0 : Int) ≤ (k : Int) := by omega
          have i2 : ((k : Int) < (t3.kids.length : Int)) := by omega
          have i3 : ((k : Int) < (L.length : Int)) := by omega
          clear hr1 hr5 hT1 hT5 hne hne3 hget5 hg5
          go_wp2_with (first
            | ((with_reducible refine at_ld 25 (.tmp 91) ?_); refine wpList_load_mid rfl 25 (.tmp 91) rfl g4 (k * 5) rfl (nodeCells tk u1) _ HR1.out Tryd.underlying25 rfl Tryd.sizeNode ?_)
            | ((with_reducible refine at_st 25 (.tmp 15) ?_); refine wpList_store_new rfl 25 (.tmp 15) (.tmp 92) rfl (nodeCells tk u1) (old := zeroNodeCells) rfl rfl Tryd.sizeNode rfl (nodeCells_one _ _ HT1.out.kat.one) ?_))
          have HKB := Lib.hid (Blk.new wr (nodeCells tk u1) 25)
          have HX11 := Lib.hid (HS.out.blk.alloc (.cells (nodeCells tk u1).toArray 25))
          have HR51 := Lib.hid (show (wr.alloc (.cells (nodeCells tk u1).toArray 25)).rangeAt g5 (k * 5) (nodeCells zk u5) from rangeAt_below HR5.out ((Below.refl _ _).alloc (Nat.le_refl _) _) hg5')
          have HT11 := Lib.hid (HT1.out.alloc (.cells (nodeCells tk u1).toArray 25))
          have HT51 := Lib.hid (HT5.out.alloc (.cells (nodeCells tk u1).toArray 25))
          have HB11 := Lib.hid ((HS.out.below.alloc HS.out.below.size (.cells (nodeCells tk u1).toArray 25)))
          refine wp_region_held_drew (S := fun W => Blk W w7.heap.size (nodeCells t3 (.slice (some ⟨g5, 0, none⟩) t3.kids.length sc3)) 25 ∧ W.rangeAt g5 (k * 5) (nodeCells zk u5) ∧ Blk W wr.heap.size (nodeCells tk u1) 25) (by kernel_rfl) (⟨HX11.out.drew, HR51.out, HKB.out.drew⟩) (fun hS => ?_)
          refine wpAnyH_take (i := 0) (oi := ⟨some 93, _, _, _, _, _⟩) (v := .pointer (some ⟨w7.heap.size, 4, none⟩)) rfl (by kernel_rfl) (by kernel_rfl) (by kernel_rfl) (fun _ _ _ h => h) (Or.inl ⟨by rfl, fun W _ => by go_simp⟩) hS ?_
          try simp only [Act.put, List.setIfInBounds_toArray, List.set_cons_zero, List.set_cons_succ]
          refine wpAnyH_take (i := 1) (oi := ⟨some 94, _, _, _, _, _⟩) (v := .slice (some ⟨g5, 0, none⟩) t3.kids.length sc3) rfl (by kernel_rfl) (by kernel_rfl) (by kernel_rfl) (fun _ _ _ h => h) (Or.inl ⟨by rfl, fun W hW => by have hcx : W.cell? ⟨w7.heap.size, 4, none⟩ = some (.slice (some ⟨g5, 0, none⟩) t3.kids.length sc3) := hW.1.cell 4; go_simp⟩) hS ?_
          try simp only [Act.put, List.setIfInBounds_toArray, List.set_cons_zero, List.set_cons_succ]
          refine wpAnyH_take (i := 2) (oi := ⟨some 95, _, _, _, _, _⟩) (v := .int .i64 k) rfl (by kernel_rfl) (by kernel_rfl) (by kernel_rfl) (fun _ _ _ h => h) (Or.inl ⟨by rfl, fun W _ => by go_simp⟩) hS ?_
          try simp only [Act.put, List.setIfInBounds_toArray, List.set_cons_zero, List.set_cons_succ]
          refine wpAnyH_take (i := 3) (oi := ⟨some 96, _, _, _, _, _⟩) (v := .pointer (some ⟨g5, k * 5, none⟩)) rfl (by kernel_rfl) (by kernel_rfl) (by kernel_rfl) (fun _ _ _ h => h) (Or.inl ⟨by rfl, fun W _ => by go_simp⟩) hS ?_
          try simp only [Act.put, List.setIfInBounds_toArray, List.set_cons_zero, List.set_cons_succ]
          refine wpAnyH_take (i := 4) (oi := ⟨some 97, _, _, _, _, _⟩) (v := .agg #[.int .i64 (zk).kind, .string (zk).text, .int .i64 (zk).num, .int .i64 (zk).place, u5]) rfl (by kernel_rfl) (by kernel_rfl) (by kernel_rfl) (fun _ _ _ h => h) (yieldsIf_load_mid (cs := nodeCells (zk) (u5)) (by rfl) 25 (.tmp 96) rfl (g5) (k * 5) (by go_simp) _ (fun W hW j v hj => (hW.2.1) j v hj) Tryd.underlying25 rfl Tryd.sizeNode) hS ?_
          try simp only [Act.put, List.setIfInBounds_toArray, List.set_cons_zero, List.set_cons_succ]
          refine wpAnyH_take (i := 6) (oi := ⟨some 99, _, _, _, _, _⟩) (v := .agg #[.int .i64 (tk).kind, .string (tk).text, .int .i64 (tk).num, .int .i64 (tk).place, u1]) rfl (by kernel_rfl) (by kernel_rfl) (by kernel_rfl) (fun _ _ _ h => h) (yieldsIf_load_mid (cs := nodeCells (tk) (u1)) (by rfl) 25 (.tmp 15) rfl (wr.heap.size) (0) (by go_simp) _ (fun W hW j v hj => by rw [Nat.zero_add, (hW.2.2).cell j]; exact hj) Tryd.underlying25 rfl Tryd.sizeNode) hS ?_
          try simp only [Act.put, List.setIfInBounds_toArray, List.set_cons_zero, List.set_cons_succ]
          refine AnyH.one (i := 5) (o := ⟨some 98, _, _, _, _, _⟩) (by kernel_rfl) rfl (by rfl) (fun K hK => ?_)
          go_simp
          refine (refTree_any _ zk (Nat.le_refl _) HT51.out.drew.kat (by have := HZK.out; omega)).mono ?_
          rintro e w12 ⟨k12, rfl, hk12, hb12⟩
          have HK12 := Lib.hid hk12
          have HX12 := Lib.hid (HX11.out.drew.below hb12)
          have HR12 := Lib.hid (rangeAt_below (w := (wr.alloc (.cells (nodeCells tk u1).toArray 25)).drew) HR51.out hb12 (by show g5 < (wr.alloc (.cells (nodeCells tk u1).toArray 25)).heap.size; simp; omega))
          have HKB12 := Lib.hid (HKB.out.drew.below hb12)
          have HT12 := Lib.hid (HT11.out.drew.below hb12)
          have HB12 := Lib.hid (HB11.out.drew.trans (hb12.mono HB11.out.drew.size))
          have hz12 := hb12.size
          clear hk12 hb12 hS
          unfold NodeV
          have hS : Blk w12 w7.heap.size (nodeCells t3 (.slice (some ⟨g5, 0, none⟩) t3.kids.length sc3)) 25 ∧ w12.rangeAt g5 (k * 5) (nodeCells zk u5) ∧ Blk w12 wr.heap.size (nodeCells tk u1) 25 := ⟨HX12.out, HR12.out, HKB12.out⟩
          refine hK.out _ _ hS ?_
          clear hK K
          try simp only [Act.put, List.setIfInBounds_toArray, List.set_cons_zero, List.set_cons_succ]
          refine AnyH.one (i := 7) (o := ⟨some 100, _, _, _, _, _⟩) (by kernel_rfl) rfl (by rfl) (fun K hK => ?_)
          go_simp
          refine (refTree_any _ tk (Nat.le_refl _) HT12.out.kat (by have := HZT.out; omega)).mono ?_
          rintro e w13 ⟨k13, rfl, hk13, hb13⟩
          have HK13 := Lib.hid hk13
          have HKZ13 := Lib.hid (HK12.out.below hb13)
          have HX13 := Lib.hid (HX12.out.below hb13)
          have HR13 := Lib.hid (rangeAt_below HR12.out hb13 (by have := HX12.out.lt; have := HKB12.out.lt; omega))
          have HKB13 := Lib.hid (HKB12.out.below hb13)
          have HB13 := Lib.hid (HB12.out.trans (hb13.mono HB12.out.size))
          clear hk13 hb13 hS
          unfold NodeV
          have hS : Blk w13 w7.heap.size (nodeCells t3 (.slice (some ⟨g5, 0, none⟩) t3.kids.length sc3)) 25 ∧ w13.rangeAt g5 (k * 5) (nodeCells zk u5) ∧ Blk w13 wr.heap.size (nodeCells tk u1) 25 := ⟨HX13.out, HR13.out, HKB13.out⟩
          refine hK.out _ _ hS ?_
          clear hK K
          try simp only [Act.put, List.setIfInBounds_toArray, List.set_cons_zero, List.set_cons_succ]
          refine AnyH.one (i := 8) (o := ⟨some 101, _, _, _, _, _⟩) (by kernel_rfl) rfl (by rfl) (fun K hK => ?_)
          go_simp
          refine (alike_any _ zk tk false (Nat.le_refl _) HKZ13.out HK13.out (by have := HZK.out; have := kids_len zk; omega) (by have := HZT.out; have := kids_len tk; omega) (by have := HZK.out; omega) (by have := HZT.out; omega)).mono ?_
          rintro e w14 ⟨rfl, hb14⟩
          have HX14 := Lib.hid (HX13.out.below hb14)
          have HR14 := Lib.hid (rangeAt_below HR13.out hb14 (by have := HKB13.out.lt; omega))
          have HKB14 := Lib.hid (HKB13.out.below hb14)
          have HB14 := Lib.hid (HB13.out.trans (hb14.mono HB13.out.size))
          clear hb14 hS
          rw [HAL.out]
          have hS : Blk w14 w7.heap.size (nodeCells t3 (.slice (some ⟨g5, 0, none⟩) t3.kids.length sc3)) 25 ∧ w14.rangeAt g5 (k * 5) (nodeCells zk u5) ∧ Blk w14 wr.heap.size (nodeCells tk u1) 25 := ⟨HX14.out, HR14.out, HKB14.out⟩
          refine hK.out _ _ hS ?_
          clear hK K
          try simp only [Act.put, List.setIfInBounds_toArray, List.set_cons_zero, List.set_cons_succ]
          refine wpAnyH_take (i := 9) (oi := ⟨some 102, _, _, _, _, _⟩) (v := .bool false) rfl (by kernel_rfl) (by kernel_rfl) (by kernel_rfl) (fun _ _ _ h => h) (Or.inl ⟨by rfl, fun W _ => by go_simp⟩) hS ?_
          try simp only [Act.put, List.setIfInBounds_toArray, List.set_cons_zero, List.set_cons_succ]
          refine wpAnyH_done (by kernel_rfl) ?_ _
          clear hS
          go_wp2
          go_roundg (gk - 1)
          case measure => omega
          case rel => exact ⟨k + 1, by omega, by omega, by go_num, ⟨HB14.out, HX14.out⟩⟩
        · go_wp2
          go_ret
          exact ⟨rfl, HB10.out.trans (HS.out.below.mono HB10.out.size)⟩

theorem syntaxJoined_reads (os : Os) {H : Type} (enc : TypeId × Value → H) : ∃ places, DataW.whole enc Tryd.prog ((laidWorld os).forCall (fun _ _ => 0) ⟨#[], #[.string ⟨#[]⟩, .string ⟨#[]⟩], []⟩).memory Tryd.f8.params.toList Rows.syntaxJoinedSpec.vars false #[Value.string ⟨#[]⟩, Value.string ⟨#[]⟩].toList 8 = some ([.lit (.string []), .lit (.string [])], [], places) :=
  ⟨[], by kernel_rfl⟩

set_option maxRecDepth 100000 in
theorem syntaxJoined_lifted (os : Os) (started : os.Started) (H : Type) (enc : TypeId × Value → H) (F : Stop.Interp) :
    ReturnsInHanded {} Tryd.checked os 8 .any ((OpenSpec.ofChange Rows.syntaxJoinedSpec).preRow enc Tryd.prog Tryd.f8 Rows.syntaxJoinedRow.domain false Rows.syntaxJoinedRow.laid) (((OpenSpec.ofChange Rows.syntaxJoinedSpec).at F).post enc Tryd.prog Tryd.f8 false true false false) := by
  obtain ⟨places, hx⟩ := syntaxJoined_reads os enc
  refine returnsInHanded_of_row (C := Tryd.checked) (s := OpenSpec.ofChange Rows.syntaxJoinedSpec) own started (by kernel_rfl) Tryd.func8
    (witness_row_at (enc := enc) (C := Tryd.checked) false (laidWorld os) #[.string ⟨#[]⟩, .string ⟨#[]⟩] rfl (by kernel_rfl) (by kernel_rfl) (by kernel_rfl)
      (OpenSpec.preRow_of_cond 8 hx (by kernel_rfl) (fun k hk => by cases hk) (by kernel_rfl) (laid_met_texts os))) ?_
  intro W base args ds gs before hval hW _ _ hreach hL _ _
  exact texts_contract Tryd.params8 (by kernel_rfl) rfl (fun _ _ => rfl) syntaxJoined_walk W base args ds gs before hval hW hreach hL

theorem syntaxJoined_said : Rows.SyntaxJoinedSaid :=
  OpenClaim.holds_of_cond 8 Tryd.f8 rfl rfl rfl rfl rfl rfl rfl ⟨rfl, rfl, rfl, rfl, rfl⟩ rfl rfl rfl rfl rfl (by kernel_rfl) Tryd.func8 (by kernel_rfl)
    (of_decide_eq_true (by kernel_rfl)) (by unfold Func.isWrapper; first | (rw [if_pos (by decide +kernel)]; kernel_rfl) | (rw [if_neg (by decide +kernel)]; exact ⟨rfl, rfl⟩))
    (fun os started H enc _ F => by rw [OpenClaim.pre_eq_preRow]; exact syntaxJoined_lifted os started H enc F)

theorem syntaxJoined_plain (f : FuncId) (fn : Func) (hf : Tryd.pinned.checked.prog.funcNamed "lychgate/lychgatelaw02.SyntaxJoined" = some f) (hfn : Tryd.pinned.checked.prog.funcs[f]? = some fn) :
    true = Tryd.pinned.checked.prog.looks [] ∧ ∀ (j : Nat) t, fn.params[j]? = some t → Tryd.pinned.checked.prog.wantsStandIn t = false := by
  obtain rfl : f = 8 := Option.some.inj ((show Tryd.prog.funcNamed "lychgate/lychgatelaw02.SyntaxJoined" = some 8 by kernel_rfl).symm.trans hf) |>.symm
  obtain rfl : fn = Tryd.f8 := (Option.some.inj (Tryd.func8.symm.trans hfn)).symm
  refine ⟨by kernel_rfl, fun j t ht => ?_⟩
  rw [Tryd.params8] at ht
  obtain rfl : t = 9 := by simpa using Array.mem_of_getElem? ht
  exact (show Tryd.prog.wantsStandIn 9 = false by kernel_rfl)

theorem syntaxJoined_card : Rows.SyntaxJoinedCardSaid :=
  Claim7.holds_tied_plain_at .later [] _ _ _ _ syntaxJoined_said (fun _ h => by cases h) (by kernel_rfl) (fun _ h => by cases h) syntaxJoined_row_tie rfl ⟨rfl, rfl⟩ (by kernel_rfl) rfl syntaxJoined_plain (by kernel_rfl)

end Go.Proofs.YtflhniiemmahmaaDoor
