/- A text with another one behind it: what is read of it begins with what is read of the first; its types are those of the first, and more. Nothing of the program is walked here. -/
import Derived.Test.YtdkdidgeaalcgaaDoorP22
import Derived.Test.YtdkdidgeaalcgaaDoorShpP
namespace Go.Proofs.YtdkdidgeaalcgaaDoor
open Go.RowKit

mutual
theorem TR.eq : ∀ {t u : T}, TR Eq t u → t = u
  | .mk k s n p ks, .mk k' s' n' p' ks', h => by
    obtain rfl : k = k' := h.kind
    obtain rfl : s = s' := h.text
    obtain rfl : n = n' := h.num
    obtain rfl : p = p' := h.place
    obtain rfl : ks = ks' := TsR.eq h.kids
    rfl
theorem TsR.eq : ∀ {ts us : List T}, TsR Eq ts us → ts = us
  | [], us, h => by unfold TsR at h; exact h.symm
  | t :: ts, us, h => by
    unfold TsR at h
    obtain ⟨u, us', rfl, h1, h2⟩ := h
    rw [TR.eq h1, TsR.eq h2]
end
theorem Al.eqs : ∀ c : List Tok, Al Eq c c
  | [] => .nil
  | _ :: c => .cons ⟨rfl, rfl, rfl, rfl⟩ (Al.eqs c)

/- The declarations of a list come first where others stand behind them. -/
theorem unitF_pre {x : List Tok} {e : Tok} (he : ¬ Con e) (hk : e.kind = 0) : ∀ (n : Nat) {c : List Tok} {xs : List T} {k : List Tok}, (∀ t ∈ c, t.kind ≠ 0) → unitF n (c ++ [e]) = .ok (xs, k) →
    ∀ (n2 : Nat) {zs : List T} {k3 : List Tok}, unitF n2 (c ++ x) = .ok (zs, k3) → ∃ ys, zs = xs ++ ys := by
  intro n
  induction n with
  | zero => intro c xs k _ h; cases h
  | succ n ih =>
    intro c xs k hc h n2 zs k3 h2
    cases c with
    | nil =>
      have h1 : unitF (n + 1) ([] ++ [e]) = .ok ([], [e]) := by
        rw [unitF]
        show (bif e.kind == 0 then _ else _) = _
        rw [hk]
        rfl
      rw [h1] at h
      cases h
      exact ⟨zs, rfl⟩
    | cons t c1 =>
      have ht0 : (t.kind == 0) = false := beq_eq_false_iff_ne.2 (hc t (by simp))
      have h' : bd (declP (t :: c1 ++ [e])) (fun a l1 => bd (unitF n l1) fun xs l2 => .ok (a :: xs, l2)) = .ok (xs, k) := by
        have e1 : ((hdT (t :: c1 ++ [e])).kind == 0) = false := ht0
        rw [unitF, e1] at h
        exact h
      cases n2 with
      | zero => cases h2
      | succ n3 =>
        have h2' : bd (declP (t :: c1 ++ x)) (fun a l1 => bd (unitF n3 l1) fun xs l2 => .ok (a :: xs, l2)) = .ok (zs, k3) := by
          have e1 : ((hdT (t :: c1 ++ x)).kind == 0) = false := ht0
          rw [unitF, e1] at h2
          exact h2
        have hs := decl_s (ρ := Eq) (x := [e]) (x' := x) (Al.eqs (t :: c1))
        rcases hs with ⟨a, a', d, q, d', q', e1, e2, hv, hd, hd', hal, hcon⟩ | ⟨p, p', ee, e1, _⟩ | ⟨_, _, _, hcl⟩
        · rw [bd_ok e1] at h'
          rw [bd_ok e2] at h2'
          cases hu : unitF n (q ++ [e]) with
          | error er => rw [bd_err hu] at h'; cases h'
          | ok r =>
            obtain ⟨xs1, k1⟩ := r
            rw [bd_ok hu] at h'
            cases h'
            have hq : ∀ t ∈ q, t.kind ≠ 0 := fun u hu => hc u (by rw [hd]; exact List.mem_append_right _ hu)
            have hqq : q = q' := by
              have h4 : d.length = d'.length := by
                have h5 := Al.length hal
                have h6 := congrArg List.length hd
                have h7 := congrArg List.length hd'
                rw [List.length_append] at h6 h7
                omega
              exact (List.append_inj (hd.symm.trans hd') h4).2
            subst hqq
            cases hu2 : unitF n3 (q ++ x) with
            | error er => rw [bd_err hu2] at h2'; cases h2'
            | ok r2 =>
              obtain ⟨zs1, k4⟩ := r2
              rw [bd_ok hu2] at h2'
              cases h2'
              obtain ⟨ys, rfl⟩ := ih hq hu n3 hu2
              exact ⟨ys, by rw [TR.eq hv]; rfl⟩
        · rw [bd_err e1] at h'; cases h'
        · obtain ⟨er, her⟩ := hcl rfl (fun u hu => by obtain rfl : u = e := List.mem_singleton.1 hu; exact he)
          rw [bd_err her] at h'
          cases h'

theorem tree_of_ok {s : ByteArray} {t : T} {p : Nat} (h : parseB s = (t, p, 0)) : ∃ xs, t = .mk 0 e0 0 0 xs := by
  unfold parseB at h
  cases hl : lexAll s with
  | error q => rw [hl] at h; simp only [Prod.mk.injEq] at h; exact ⟨[], h.1.symm⟩
  | ok ts =>
    rw [hl] at h
    simp only at h
    unfold parseToks at h
    cases hu : unitP ts with
    | error q => rw [hu] at h; simp only [Prod.mk.injEq] at h; exact ⟨[], h.1.symm⟩
    | ok r =>
      obtain ⟨u, l⟩ := r
      rw [hu] at h
      simp only at h
      unfold unitP at hu
      cases hf : unitF (ts.length + 1) ts with
      | error q => rw [bd_err hf] at hu; cases hu
      | ok r =>
        obtain ⟨xs, l1⟩ := r
        rw [bd_ok hf] at hu
        cases hu
        split at h
        · simp only [Prod.mk.injEq] at h; exact ⟨[], h.1.symm⟩
        · simp only [Prod.mk.injEq] at h; exact ⟨xs, h.1.symm⟩

theorem parse_ext {a b : ByteArray} {t u : T} {p q : Nat} (ha : parseB a = (t, p, 0)) (hj : parseB (joinB a b) = (u, q, 0)) : ∃ ys, u.kids = t.kids ++ ys := by
  obtain ⟨xs, rfl⟩ := tree_of_ok ha
  obtain ⟨zs, rfl⟩ := tree_of_ok hj
  obtain ⟨ta, hla, ka, hua⟩ := parse_unit ha
  obtain ⟨tj, hlj, kj, huj⟩ := parse_unit hj
  obtain ⟨c, hc, hk0⟩ := lex_kinds 0 ta (lexAll_from hla).1
  have h1 := join_first a b 0 ta (by omega) (lexAll_from hla).1
  have h2 := (lexAll_from hlj).1
  rw [h1] at h2
  obtain ⟨x, _, hx⟩ := more_ok h2
  have hdl : ta.dropLast = c := by rw [hc]; simp
  rw [hdl] at hx
  rw [hc] at hua
  rw [hx] at huj
  exact unitF_pre (end_nc a) rfl _ hk0 hua _ huj

theorem typesF_append : ∀ (xs : List T) {tys : List Ty} {ys : List T}, typesF tys (xs ++ ys) = match typesF tys xs with | .error e => .error e | .ok t => typesF t ys
  | [], _, _ => rfl
  | n :: r, tys, ys => by
    rw [List.cons_append, typesF, typesF]
    cases n.kind == 1
    · exact typesF_append r
    · simp only [cond_true]
      cases oneP tys n with
      | error e => rfl
      | ok x => exact typesF_append r
theorem typesF_ext : ∀ (xs : List T) {tys tys' : List Ty}, typesF tys xs = .ok tys' → ∃ zs, tys' = tys ++ zs
  | [], tys, tys', h => by cases h; exact ⟨[], by simp⟩
  | n :: r, tys, tys', h => by
    rw [typesF] at h
    cases hk : n.kind == 1
    · rw [hk] at h; exact typesF_ext r h
    · rw [hk] at h
      simp only [cond_true] at h
      cases ho : oneP tys n with
      | error e => rw [ho] at h; cases h
      | ok x =>
        rw [ho] at h
        obtain ⟨zs, rfl⟩ := typesF_ext r h
        exact ⟨x :: zs, by simp⟩

end Go.Proofs.YtdkdidgeaalcgaaDoor
