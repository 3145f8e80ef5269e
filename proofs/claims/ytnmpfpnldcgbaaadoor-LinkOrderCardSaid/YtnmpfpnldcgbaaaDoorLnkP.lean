/- Plain facts on the account of layer 8: what comes of the functions of a tree, what an image keeps to, where a fault stands. Nothing of the program is walked here. -/
import Derived.Test.YtnmpfpnldcgbaaaDoorLnk1
import Derived.Test.YtnmpfpnldcgbaaaDoorP34
namespace Go.Proofs.YtnmpfpnldcgbaaaDoor
open Go.RowKit

def fnsL (ts : List T) : List T := ts.filter fun t => t.kind == 6
def Uniq (cs : List Cod) : Prop := ∀ k c, cs[k]? = some c → findN cs c.name = some k
theorem Uniq.nil : Uniq [] := fun k c h => by simp at h
theorem Uniq.snoc {cs : List Cod} {c : Cod} (h : Uniq cs) (hn : findN cs c.name = none) : Uniq (cs ++ [c]) := by
  intro k d hk
  rw [findN_snoc]
  rcases Nat.lt_or_ge k cs.length with hl | hl
  · rw [List.getElem?_append_left hl] at hk
    rw [h k d hk]
  · rw [List.getElem?_append_right hl] at hk
    have h0 : k - cs.length = 0 := by
      have := (List.getElem?_eq_some_iff.1 hk).1
      simp at this; omega
    rw [h0] at hk
    obtain rfl : c = d := by simpa using hk
    rw [hn]
    have : (c.name.toList == c.name.toList) = true := by simp
    rw [this]
    show some cs.length = some k
    congr 1
    omega
theorem lowerI_name {t : T} (h : t.kind = 6) : (lowerI t).name = t.text := by
  unfold lowerI
  have : (t.kind == 6) = true := by simpa using h
  rw [this]; rfl
theorem addL_cons (cs : List Cod) (t : T) (ts : List T) : addL cs (t :: ts) = bif t.kind == 6 then (bif (findN cs t.text).isSome then (cs, some t.place) else addL (cs ++ [lowerI t]) ts) else addL cs ts := by rw [addL]
theorem addL_none : ∀ (ts : List T) (cs ds : List Cod), addL cs ts = (ds, none) → ds = cs ++ (fnsL ts).map lowerI
  | [], cs, ds, h => by
    rw [addL] at h
    cases h
    simp [fnsL]
  | t :: ts, cs, ds, h => by
    rw [addL_cons] at h
    cases h6 : (t.kind == 6) with
    | false =>
      rw [h6] at h
      have := addL_none ts cs ds h
      rw [this]
      simp [fnsL, List.filter, h6]
    | true =>
      rw [h6] at h
      cases hf : (findN cs t.text).isSome with
      | true => rw [hf] at h; cases h
      | false =>
        rw [hf] at h
        have := addL_none ts _ ds h
        rw [this]
        simp [fnsL, List.filter, h6]
theorem addL_some : ∀ (ts : List T) (cs ds : List Cod) (p : Nat), addL cs ts = (ds, some p) → ∃ t, t ∈ ts ∧ t.kind = 6 ∧ t.place = p
  | [], cs, ds, p, h => by rw [addL] at h; cases h
  | t :: ts, cs, ds, p, h => by
    rw [addL_cons] at h
    cases h6 : (t.kind == 6) with
    | false =>
      rw [h6] at h
      obtain ⟨u, hu, h1⟩ := addL_some ts cs ds p h
      exact ⟨u, by simp [hu], h1⟩
    | true =>
      rw [h6] at h
      cases hf : (findN cs t.text).isSome with
      | true =>
        rw [hf] at h
        cases h
        exact ⟨t, by simp, by simpa using h6, rfl⟩
      | false =>
        rw [hf] at h
        obtain ⟨u, hu, h1⟩ := addL_some ts _ ds p h
        exact ⟨u, by simp [hu], h1⟩
theorem addL_uniq : ∀ (ts : List T) (cs : List Cod), Uniq cs → Uniq (addL cs ts).1
  | [], cs, h => by rw [addL]; exact h
  | t :: ts, cs, h => by
    rw [addL_cons]
    cases h6 : (t.kind == 6) with
    | false => exact addL_uniq ts cs h
    | true =>
      cases hf : (findN cs t.text).isSome with
      | true => exact h
      | false =>
        refine addL_uniq ts _ (h.snoc ?_)
        rw [lowerI_name (by simpa using h6)]
        simpa using hf
theorem addL_length : ∀ (ts : List T) (cs : List Cod), (addL cs ts).1.length ≤ cs.length + ts.length
  | [], cs => by rw [addL]; simp
  | t :: ts, cs => by
    rw [addL_cons]
    have h1 := addL_length ts cs
    have h2 := addL_length ts (cs ++ [lowerI t])
    cases h6 : (t.kind == 6) with
    | false => simp only [cond_false, List.length_cons]; omega
    | true =>
      cases hf : (findN cs t.text).isSome with
      | true => simp only [cond_true]; omega
      | false => simp only [cond_true, cond_false, List.length_cons] at *; simp at h2; omega

/- What holds of an instruction that is linked. -/
theorem resL_zero {cs : List Cod} {libs : Nat} {i : Ins} (h : resL cs libs i = 0) (ho : i.op = 12 ∨ i.op = 13) : ∃ k c, findN cs i.y = some k ∧ cs[k]? = some c ∧ decide (k < libs) = (i.op == 12) ∧ c.params.length = i.args.length := by
  unfold resL at h
  have h1 : (i.op == 12 || i.op == 13) = true := by rcases ho with e | e <;> rw [e] <;> rfl
  rw [h1] at h
  cases hf : findN cs i.y with
  | none => rw [hf] at h; exact absurd (show (31 : Int) = 0 from h) (by decide)
  | some k =>
    rw [hf] at h
    have hl := findN_lt hf
    refine ⟨k, cs[k], rfl, List.getElem?_eq_getElem hl, ?_⟩
    simp only [cond_true] at h
    cases hq : (decide (k < libs) != (i.op == 12)) with
    | true => rw [hq] at h; exact absurd (show (31 : Int) = 0 from h) (by decide)
    | false =>
      rw [hq] at h
      simp only [cond_false] at h
      have hg : cs.getD k cod0 = cs[k] := by simp [List.getD, List.getElem?_eq_getElem hl]
      rw [hg] at h
      cases hr : ((cs[k].params.length : Int) != (i.args.length : Int)) with
      | true => rw [hr] at h; exact absurd (show (51 : Int) = 0 from h) (by decide)
      | false =>
        refine ⟨by simpa using hq, ?_⟩
        have h3 : (cs[k].params.length : Int) = (i.args.length : Int) := by simpa using hr
        exact Int.ofNat.inj h3
theorem resL_bad {cs : List Cod} {libs : Nat} {i : Ins} (h : resL cs libs i ≠ 0) : (i.op = 12 ∨ i.op = 13) ∧ (resL cs libs i = 31 ∨ resL cs libs i = 51) := by
  unfold resL at *
  cases h1 : (i.op == 12 || i.op == 13) with
  | false => rw [h1] at h; exact absurd rfl h
  | true =>
    refine ⟨by simpa using h1, ?_⟩
    rw [h1] at h
    cases hf : findN cs i.y with
    | none => exact .inl rfl
    | some k =>
      rw [hf] at h
      simp only [cond_true] at h ⊢
      cases hq : (decide (k < libs) != (i.op == 12)) with
      | true => exact .inl rfl
      | false =>
        rw [hq] at h
        simp only [cond_false] at h ⊢
        cases hr : (((cs.getD k cod0).params.length : Int) != (i.args.length : Int)) with
        | true => exact .inr rfl
        | false => rw [hr] at h; exact absurd rfl h
theorem chkL_ok : ∀ {cs : List Cod} {libs : Nat} (is : List Ins), (chkL cs libs is).2 = 0 → ∀ i ∈ is, resL cs libs i = 0
  | _, _, [], _, i, h => by simp at h
  | cs, libs, a :: is, h, i, hi => by
    rw [chkL] at h
    cases hq : (resL cs libs a != 0) with
    | true =>
      rw [hq] at h
      simp at hq
      exact absurd h hq
    | false =>
      rw [hq] at h
      rcases List.mem_cons.1 hi with rfl | hi
      · simpa using hq
      · exact chkL_ok is h i hi
theorem chkL_bad : ∀ {cs : List Cod} {libs : Nat} (is : List Ins), (chkL cs libs is).2 ≠ 0 → ∃ i, i ∈ is ∧ i.place = (chkL cs libs is).1 ∧ (i.op = 12 ∨ i.op = 13) ∧ ((chkL cs libs is).2 = 31 ∨ (chkL cs libs is).2 = 51)
  | _, _, [], h => absurd rfl h
  | cs, libs, a :: is, h => by
    rw [chkL] at h ⊢
    cases hq : (resL cs libs a != 0) with
    | true =>
      have hb := resL_bad (cs := cs) (libs := libs) (i := a) (by simpa using hq)
      exact ⟨a, by simp, rfl, hb.1, hb.2⟩
    | false =>
      rw [hq] at h
      obtain ⟨i, hi, h1⟩ := chkL_bad is h
      exact ⟨i, by simp [hi], h1⟩
theorem allL_cons (cs : List Cod) (libs k : Nat) (c : Cod) (rest : List Cod) : allL cs libs k (c :: rest) = bif (chkL cs libs c.list).2 != 0 then ((chkL cs libs c.list).1, decide (libs ≤ k), (chkL cs libs c.list).2) else allL cs libs (k + 1) rest := by rw [allL]
theorem allL_ok : ∀ {cs : List Cod} {libs : Nat} (rest : List Cod) (k : Nat), (allL cs libs k rest).2.2 = 0 → ∀ c ∈ rest, ∀ i ∈ c.list, resL cs libs i = 0
  | _, _, [], _, _, c, h => by simp at h
  | cs, libs, a :: rest, k, h, c, hc => by
    rw [allL_cons] at h
    cases hq : ((chkL cs libs a.list).2 != 0) with
    | true =>
      rw [hq] at h
      simp at hq
      exact absurd h hq
    | false =>
      rw [hq] at h
      rcases List.mem_cons.1 hc with rfl | hc
      · exact chkL_ok _ (by simpa using hq)
      · exact allL_ok rest _ h c hc
theorem allL_bad : ∀ {cs : List Cod} {libs : Nat} (rest : List Cod) (k : Nat), (allL cs libs k rest).2.2 ≠ 0 → ∃ j c, rest[j]? = some c ∧ (allL cs libs k rest).2.1 = decide (libs ≤ k + j) ∧ (∃ i, i ∈ c.list ∧ i.place = (allL cs libs k rest).1 ∧ (i.op = 12 ∨ i.op = 13)) ∧ ((allL cs libs k rest).2.2 = 31 ∨ (allL cs libs k rest).2.2 = 51)
  | _, _, [], _, h => absurd rfl h
  | cs, libs, a :: rest, k, h => by
    rw [allL_cons] at h ⊢
    cases hq : ((chkL cs libs a.list).2 != 0) with
    | true =>
      obtain ⟨i, hi, h1, h2, h3⟩ := chkL_bad (cs := cs) (libs := libs) a.list (by simpa using hq)
      exact ⟨0, a, rfl, rfl, ⟨i, hi, h1, h2⟩, h3⟩
    | false =>
      rw [hq] at h
      obtain ⟨j, c, hj, h1, h2⟩ := allL_bad rest (k + 1) h
      refine ⟨j + 1, c, by simpa using hj, ?_, h2⟩
      simp only [cond_false]
      rw [h1, show k + 1 + j = k + (j + 1) by omega]

/- Does a function or a statement of the tree stand at this place? -/
def ownB (p : Nat) (k : Int) (q : Nat) : Bool := (q == p) && (k == 6 || (decide (10 ≤ k) && decide (k ≤ 20)))
mutual
def T.standsB (p : Nat) : T → Bool
  | .mk k _ _ q ks => ownB p k q || standsBs p ks
def standsBs (p : Nat) : List T → Bool
  | [] => false
  | t :: ts => t.standsB p || standsBs p ts
end
theorem stands_eq (p : Nat) (t : T) : t.standsB p = (ownB p t.kind t.place || standsBs p t.kids) := by cases t; rw [T.standsB]; rfl
theorem standsBs_nil (p : Nat) : standsBs p [] = false := by rw [standsBs]
theorem standsBs_cons (p : Nat) (t : T) (ts : List T) : standsBs p (t :: ts) = (t.standsB p || standsBs p ts) := by rw [standsBs]
theorem standsBs_mem {p : Nat} : ∀ {ts : List T} {t : T}, t ∈ ts → t.standsB p = true → standsBs p ts = true
  | a :: ts, t, hm, h => by
    rw [standsBs_cons]
    rcases List.mem_cons.1 hm with rfl | hm
    · rw [h]; rfl
    · rw [standsBs_mem hm h]; simp
theorem stands_kid {p : Nat} {t u : T} (h : u ∈ t.kids) (hu : u.standsB p = true) : t.standsB p = true := by
  rw [stands_eq, standsBs_mem h hu]; simp
theorem stands_in {p : Nat} {t : T} (h : standsBs p t.kids = true) : t.standsB p = true := by rw [stands_eq, h]; simp
theorem stands_own {t : T} (h : t.kind = 6 ∨ (10 ≤ t.kind ∧ t.kind ≤ 20)) : t.standsB t.place = true := by
  rw [stands_eq]
  have : ownB t.place t.kind t.place = true := by
    unfold ownB
    simp
    omega
  rw [this]; rfl
theorem blockI_stands : ∀ (n : Nat) (ks : List T), sizes ks ≤ n → KindsAre isStmtK ks → wholes ks → ∀ c, ∀ i ∈ blockI n c ks, standsBs i.place ks = true
  | 0, ks, _, _, _, c, i, hi => by simp [blockI] at hi
  | n + 1, ks, hn, hk, hw, c, i, hi => by
    have hi' : i ∈ stmtsI (blockI n) c ks := hi
    clear hi
    induction ks generalizing c with
    | nil => simp [stmtsI] at hi'
    | cons t ts ih =>
      rw [sizes_cons] at hn
      have hts : t.size = 1 + sizes t.kids := by cases t; rw [size_mk]; rfl
      have hwt := wholes_cons.1 hw
      have hkt : isStmtK t.kind := hk t (by simp)
      rw [stmtsI, List.mem_append] at hi'
      rw [standsBs_cons]
      rcases hi' with hi | hi
      · have : t.standsB i.place = true := by
          have own : i.place = t.place → t.standsB i.place = true := fun e => by rw [e]; exact stands_own (.inr hkt)
          rcases stmt_form hwt.1 hkt with ⟨h15, a, b, x, y, he, hab, hxy, hwab, hx, hy⟩ | ⟨h16, a, b, x, he, hab, hx9, hwab, hx⟩ | ⟨h15, h16, h0⟩
          · have s1 : sizes t.kids = a.size + (b.size + (x.size + (y.size + 0))) := by rw [he, sizes_cons, sizes_cons, sizes_cons, sizes_cons, sizes_nil]
            have s2 : x.size = 1 + sizes x.kids := by cases x; rw [size_mk]; rfl
            have s3 : y.size = 1 + sizes y.kids := by cases y; rw [size_mk]; rfl
            have hbx := block_kids hx hxy.1
            have hby := block_kids hy hxy.2
            rw [stmtI_if _ _ h15 he] at hi
            simp only [List.mem_cons, List.mem_append] at hi
            rcases hi with rfl | hi | rfl | hi
            · exact own rfl
            · exact stands_kid (u := x) (by rw [he]; simp) (stands_in (blockI_stands n x.kids (by omega) hbx.1 hbx.2 _ i hi))
            · exact own rfl
            · exact stands_kid (u := y) (by rw [he]; simp) (stands_in (blockI_stands n y.kids (by omega) hby.1 hby.2 _ i hi))
          · have s1 : sizes t.kids = a.size + (b.size + (x.size + 0)) := by rw [he, sizes_cons, sizes_cons, sizes_cons, sizes_nil]
            have s2 : x.size = 1 + sizes x.kids := by cases x; rw [size_mk]; rfl
            have hbx := block_kids hx hx9
            rw [stmtI_while _ _ h16 he] at hi
            simp only [List.mem_cons, List.mem_append, List.not_mem_nil, or_false] at hi
            rcases hi with rfl | hi | rfl
            · exact own rfl
            · exact stands_kid (u := x) (by rw [he]; simp) (stands_in (blockI_stands n x.kids (by omega) hbx.1 hbx.2 _ i hi))
            · exact own rfl
          · obtain ⟨j, hj, _, _, _, hp⟩ := stmtI_one (blockI n) c hkt h15 h16
            rw [hj] at hi
            obtain rfl : i = j := by simpa using hi
            exact own hp
        rw [this]; rfl
      · rw [ih (by omega) (fun u hu => hk u (by simp [hu])) hwt.2 _ hi]; simp
theorem fn_stands {t : T} (hw : t.whole) (h6 : t.kind = 6) (hs : t.size ≤ 5000) {i : Ins} (hi : i ∈ (lowerI t).list) (ho : i.op = 12 ∨ i.op = 13) : t.standsB i.place = true := by
  obtain ⟨xs, r, b, he, hx, hwx, hr, hb, hsz, hl⟩ := fn_form hw h6
  have hts : t.size = 1 + sizes t.kids := by cases t; rw [size_mk]; rfl
  have hbk := block_kids hb.2 hb.1
  rw [hl] at hi
  have hi' : i ∈ blockI 5000 0 b.kids ++ [retI b] := hi
  rw [List.mem_append] at hi'
  rcases hi' with hi | hi
  · exact stands_kid (u := b) (by rw [he]; simp) (stands_in (blockI_stands 5000 b.kids (by omega) hbk.1 hbk.2 _ i hi))
  · obtain rfl : i = retI b := by simpa using hi
    exact absurd ho (by show ¬ ((14 : Int) = 12 ∨ (14 : Int) = 13); omega)

/- What linking comes to. -/
structure Linked (a b : T) (m : Img) : Prop where
  codes : m.codes = (fnsL a.kids).map lowerI ++ (fnsL b.kids).map lowerI
  libs : m.libs = (fnsL a.kids).length
  uniq : Uniq m.codes
  ok : ∀ c ∈ m.codes, ∀ i ∈ c.list, resL m.codes m.libs i = 0
  main : findN m.codes mainS = some m.main
  lo : m.libs ≤ m.main
  none : (m.codes.getD m.main cod0).params.length = 0
theorem linkL_form (a b : T) : (∃ p is e, linkL a b = (img0, p, is, e) ∧ ((e = 55 ∧ p = 0 ∧ is = true) ∨ ((e = 30 ∨ e = 31 ∨ e = 51) ∧ (a.whole → b.whole → a.size ≤ 5000 → b.size ≤ 5000 → (bif is then b else a).standsB p = true)))) ∨ (∃ m, linkL a b = (m, 0, false, 0) ∧ Linked a b m) := by
  unfold linkL
  cases h1 : addL [] a.kids with
  | mk cs r1 =>
    have hu1 := addL_uniq a.kids [] Uniq.nil
    rw [h1] at hu1
    cases r1 with
    | some p =>
      refine .inl ⟨p, false, 30, rfl, .inr ⟨.inl rfl, fun _ _ _ _ => ?_⟩⟩
      obtain ⟨t, ht, hk, hp⟩ := addL_some _ _ _ _ h1
      exact stands_kid ht (by rw [← hp]; exact stands_own (.inl hk))
    | none =>
      have hc := addL_none _ _ _ h1
      simp only
      cases h2 : addL cs b.kids with
      | mk ds r2 =>
        have hu2 := addL_uniq b.kids cs hu1
        rw [h2] at hu2
        cases r2 with
        | some p =>
          refine .inl ⟨p, true, 30, rfl, .inr ⟨.inl rfl, fun _ _ _ _ => ?_⟩⟩
          obtain ⟨t, ht, hk, hp⟩ := addL_some _ _ _ _ h2
          exact stands_kid ht (by rw [← hp]; exact stands_own (.inl hk))
        | none =>
          have hd := addL_none _ _ _ h2
          simp only
          have hlen : cs.length = (fnsL a.kids).length := by rw [hc]; simp
          cases hq : ((allL ds cs.length 0 ds).2.2 != 0) with
          | true =>
            obtain ⟨j, c, hj, h3, ⟨i, hi, hp, ho⟩, h5⟩ := allL_bad (cs := ds) (libs := cs.length) ds 0 (by simpa using hq)
            refine .inl ⟨_, _, _, rfl, .inr ⟨.inr h5, fun hwa hwb hsa hsb => ?_⟩⟩
            rw [h3, ← hp, Nat.zero_add]
            have hsz : ∀ (x t : T), t ∈ x.kids → t.size ≤ x.size := fun x t ht => by
              obtain ⟨q, hq⟩ := List.mem_iff_getElem?.1 ht
              have h1 := sizes_mem hq
              have h2 : x.size = 1 + sizes x.kids := by cases x; rw [size_mk]; rfl
              omega
            rcases Nat.lt_or_ge j cs.length with hl | hl
            · have e : decide (cs.length ≤ j) = false := by simp; omega
              rw [e]
              rw [hd, List.getElem?_append_left hl, hc, List.nil_append, List.getElem?_map] at hj
              obtain ⟨t, ht, rfl⟩ := Option.map_eq_some_iff.1 hj
              have hm := List.mem_filter.1 (List.mem_of_getElem? ht)
              exact stands_kid hm.1 (fn_stands (wholes_mem (whole_eq.1 hwa).2 hm.1) (by simpa using hm.2) (Nat.le_trans (hsz a t hm.1) hsa) hi ho)
            · have e : decide (cs.length ≤ j) = true := by simp; omega
              rw [e]
              rw [hd, List.getElem?_append_right hl, List.getElem?_map] at hj
              obtain ⟨t, ht, rfl⟩ := Option.map_eq_some_iff.1 hj
              have hm := List.mem_filter.1 (List.mem_of_getElem? ht)
              exact stands_kid hm.1 (fn_stands (wholes_mem (whole_eq.1 hwb).2 hm.1) (by simpa using hm.2) (Nat.le_trans (hsz b t hm.1) hsb) hi ho)
          | false =>
            have hok := allL_ok (cs := ds) (libs := cs.length) ds 0 (by simpa using hq)
            cases hm : mainL ds cs.length with
            | none => exact .inl ⟨0, true, 55, rfl, .inl ⟨rfl, rfl, rfl⟩⟩
            | some k =>
              unfold mainL at hm
              cases hf : findN ds mainS with
              | none => rw [hf] at hm; cases hm
              | some q =>
                rw [hf] at hm
                simp only at hm
                cases hx : (decide (q < cs.length) || decide (0 < (ds.getD q cod0).params.length)) with
                | true => rw [hx] at hm; cases hm
                | false =>
                  rw [hx] at hm
                  simp only [cond_false, Option.some.injEq] at hm
                  subst hm
                  simp only [Bool.or_eq_false_iff, decide_eq_false_iff_not] at hx
                  exact .inr ⟨_, rfl, by rw [hd, hc]; simp, hlen, hu2, hok, hf, by show cs.length ≤ q; omega, by show (ds.getD q cod0).params.length = 0; omega⟩

end Go.Proofs.YtnmpfpnldcgbaaaDoor
