/- Plain facts on the account of layer 7: how many instructions a whole tree has, where its jumps go, that its first ones stand in the order of its statements. Nothing of the program is walked here. -/
import Derived.Test.YtnmpfpnldcgbaaaDoorP24
import Derived.Test.YtnmpfpnldcgbaaaDoorP26
namespace Go.Proofs.YtnmpfpnldcgbaaaDoor
open Go.RowKit

/- How the law counts. -/
mutual
def T.count : T → Nat
  | .mk k _ _ _ ks => (bif k == 15 || k == 16 then 2 else bif decide (10 ≤ k) && decide (k ≤ 20) then 1 else 0) + counts ks
def counts : List T → Nat
  | [] => 0
  | t :: ts => t.count + counts ts
end
def ownCount (k : Int) : Nat := bif k == 15 || k == 16 then 2 else bif decide (10 ≤ k) && decide (k ≤ 20) then 1 else 0
theorem count_eq (t : T) : t.count = ownCount t.kind + counts t.kids := by cases t; rw [T.count]; rfl
theorem counts_nil : counts [] = 0 := by rw [counts]
theorem counts_cons (t : T) (ts : List T) : counts (t :: ts) = t.count + counts ts := by rw [counts]
theorem counts_append : ∀ a b : List T, counts (a ++ b) = counts a + counts b
  | [], b => by simp [counts_nil]
  | t :: ts, b => by rw [List.cons_append, counts_cons, counts_cons, counts_append ts b]; omega
theorem ownCount_no {k : Int} (h : k < 10 ∨ 20 < k) : ownCount k = 0 := by
  unfold ownCount
  have h1 : (k == 15) = false := by simp; omega
  have h2 : (k == 16) = false := by simp; omega
  have h3 : (decide (10 ≤ k) && decide (k ≤ 20)) = false := by simp; omega
  rw [h1, h2, h3]; rfl

theorem count_term {t : T} (h : t.whole) (hk : t.kind = 5) : t.count = 0 ∧ t.kids = [] := by
  rw [count_eq, ownCount_no (by omega)]
  have h1 := (whole_eq.1 h).1
  rw [hk] at h1
  generalize t.kids = ks at *
  cases h1 with
  | leaf _ => exact ⟨counts_nil, rfl⟩
  | unit e | type e | none e | one e | two e | fn e | param e | block e | set e | cond e | loop e | call1 e | load e | call e => omega
theorem counts_terms : ∀ {ts : List T}, wholes ts → KindsAre (· = 5) ts → counts ts = 0
  | [], _, _ => counts_nil
  | t :: ts, h, hk => by
    rw [counts_cons, (count_term (wholes_cons.1 h).1 (hk t (by simp))).1, counts_terms (wholes_cons.1 h).2 fun u hu => hk u (by simp [hu])]
/- A node whose kids are terms, or none. -/
theorem count_flat {t : T} (h : t.whole) (hk : t.kind = 2 ∨ t.kind = 3 ∨ t.kind = 4 ∨ t.kind = 8 ∨ (21 ≤ t.kind ∧ t.kind ≤ 28)) : t.count = 0 := by
  rw [count_eq, ownCount_no (by omega)]
  obtain ⟨h1, hw⟩ := whole_eq.1 h
  generalize t.kids = ks at *
  generalize t.kind = k at *
  cases h1 with
  | none _ => exact counts_nil
  | leaf _ => exact counts_nil
  | one _ ha => rw [counts_terms hw (.cons ha .nil)]
  | two _ ha hb => rw [counts_terms hw (.cons ha (.cons hb .nil))]
  | load _ ha => rw [counts_terms hw (.cons ha .nil)]
  | call _ ha => rw [counts_terms hw ha]
  | unit e | type e | fn e | param e | block e | set e | cond e | loop e | call1 e => omega
theorem count_expr {t : T} (h : t.whole) (hk : isExprK t.kind) : t.count = 0 := by
  rcases hk with hk | hk
  · exact (count_term h hk).1
  · exact count_flat h (by omega)
theorem count_param {t : T} (h : t.whole) (hk : t.kind = 7) : t.count = 0 := by
  rw [count_eq, ownCount_no (by omega)]
  obtain ⟨h1, hw⟩ := whole_eq.1 h
  rw [hk] at h1
  generalize t.kids = ks at *
  cases h1 with
  | param _ ha => rw [counts_cons, counts_nil, count_flat (wholes_cons.1 hw).1 (by omega)]
  | unit e | type e | none e | one e | two e | fn e | block e | set e | cond e | loop e | call1 e | load e | call e | leaf e => omega
theorem counts_params : ∀ {ts : List T}, wholes ts → KindsAre (· = 7) ts → counts ts = 0
  | [], _, _ => counts_nil
  | t :: ts, h, hk => by
    rw [counts_cons, count_param (wholes_cons.1 h).1 (hk t (by simp)), counts_params (wholes_cons.1 h).2 fun u hu => hk u (by simp [hu])]

/- What a statement is, by its kind. -/
theorem stmt_form {t : T} (h : t.whole) (hk : isStmtK t.kind) :
    (t.kind = 15 ∧ ∃ a b c d, t.kids = [a, b, c, d] ∧ (a.kind = 5 ∧ b.kind = 5) ∧ (c.kind = 9 ∧ d.kind = 9) ∧ (a.whole ∧ b.whole) ∧ c.whole ∧ d.whole) ∨
    (t.kind = 16 ∧ ∃ a b c, t.kids = [a, b, c] ∧ (a.kind = 5 ∧ b.kind = 5) ∧ c.kind = 9 ∧ (a.whole ∧ b.whole) ∧ c.whole) ∨
    (t.kind ≠ 15 ∧ t.kind ≠ 16 ∧ counts t.kids = 0) := by
  obtain ⟨h1, hw⟩ := whole_eq.1 h
  unfold isStmtK at hk
  generalize t.kids = ks at *
  generalize t.kind = k at *
  cases h1 with
  | @cond a b c d e ha hb hc hd =>
    simp only [wholes_cons] at hw
    exact .inl ⟨e, a, b, c, d, rfl, ⟨ha, hb⟩, ⟨hc, hd⟩, ⟨hw.1, hw.2.1⟩, hw.2.2.1, hw.2.2.2.1⟩
  | @loop a b c e ha hb hc =>
    simp only [wholes_cons] at hw
    exact .inr (.inl ⟨e, a, b, c, rfl, ⟨ha, hb⟩, hc, ⟨hw.1, hw.2.1⟩, hw.2.2.1⟩)
  | two e ha hb => exact .inr (.inr ⟨by omega, by omega, counts_terms hw (.cons ha (.cons hb .nil))⟩)
  | set e ha => exact .inr (.inr ⟨by omega, by omega, by rw [counts_cons, counts_nil, count_expr (wholes_cons.1 hw).1 ha]⟩)
  | none e => exact .inr (.inr ⟨by omega, by omega, counts_nil⟩)
  | leaf e => exact .inr (.inr ⟨by omega, by omega, counts_nil⟩)
  | one e ha => exact .inr (.inr ⟨by omega, by omega, counts_terms hw (.cons ha .nil)⟩)
  | call1 e ha => exact .inr (.inr ⟨by omega, by omega, by rw [counts_cons, counts_nil, count_flat (wholes_cons.1 hw).1 (by omega)]⟩)
  | call e ha => exact .inr (.inr ⟨by omega, by omega, counts_terms hw ha⟩)
  | unit e | type e | fn e | param e | block e | load e => omega
theorem block_kids {t : T} (h : t.whole) (hk : t.kind = 9) : KindsAre isStmtK t.kids ∧ wholes t.kids := by
  obtain ⟨h1, hw⟩ := whole_eq.1 h
  rw [hk] at h1
  refine ⟨?_, hw⟩
  generalize t.kids = ks at *
  cases h1 with
  | block _ ha => exact ha
  | unit e | type e | none e | one e | two e | fn e | param e | set e | cond e | loop e | call1 e | load e | call e | leaf e => omega

/- The instructions of a plain statement: one. -/
def PlainI (p : Nat) (i : Ins) : Prop := i.op ≠ 10 ∧ i.op ≠ 11 ∧ i.to = 0 ∧ i.place = p
theorem plainOk {op : Int} {p : Nat} {x y : ByteArray} {a b : Tm} {args : List Tm} {has : Bool} (h : op ≠ 10 ∧ op ≠ 11) : PlainI p ⟨op, p, x, y, a, b, args, 0, has⟩ := ⟨h.1, h.2, rfl, rfl⟩
theorem stmtI_one (blk : Nat → List T → List Ins) (c : Nat) {t : T} (hk : isStmtK t.kind) (h15 : t.kind ≠ 15) (h16 : t.kind ≠ 16) : ∃ i, stmtI blk c t = [i] ∧ PlainI t.place i := by
  have e15 : (t.kind == 15) = false := by simp; omega
  have e16 : (t.kind == 16) = false := by simp; omega
  unfold stmtI
  rw [e15, e16]
  cases h10 : (t.kind == 10) with
  | true =>
    refine ⟨setI t, rfl, ?_⟩
    unfold setI
    cases (kidP t 0).kind == 5 with
    | true => exact plainOk (by decide)
    | false =>
    cases (kidP t 0).kind == 26 || (kidP t 0).kind == 27 with
    | true => exact plainOk (by decide)
    | false =>
    cases (kidP t 0).kind == 21 with
    | true => exact plainOk (by decide)
    | false =>
    cases (kidP t 0).kind == 22 with
    | true => exact plainOk (by decide)
    | false =>
    cases (kidP t 0).kind == 23 with
    | true => exact plainOk (by decide)
    | false =>
    cases (kidP t 0).kind == 24 with
    | true => exact plainOk (by decide)
    | false =>
    cases (kidP t 0).kind == 25 with
    | true => exact plainOk (by decide)
    | false =>
    cases (kidP t 0).kind == 28 with
    | true => exact plainOk (by decide)
    | false => exact plainOk (by decide)
  | false =>
    unfold simpleI
    cases h11 : (t.kind == 11) with
    | true => exact ⟨_, rfl, plainOk (by decide)⟩
    | false =>
    cases h12 : (t.kind == 12) with
    | true => exact ⟨_, rfl, plainOk (by decide)⟩
    | false =>
    cases h13 : (t.kind == 13) with
    | true => exact ⟨_, rfl, plainOk (by decide)⟩
    | false =>
    cases h14 : (t.kind == 14) with
    | true => exact ⟨_, rfl, plainOk (by decide)⟩
    | false =>
    cases h20 : (t.kind == 20) with
    | true => exact ⟨_, rfl, plainOk (by decide)⟩
    | false =>
    cases h19 : (t.kind == 19) with
    | true => exact ⟨_, rfl, plainOk (by decide)⟩
    | false =>
    cases h17 : (t.kind == 17) with
    | true => exact ⟨_, rfl, plainOk (by decide)⟩
    | false =>
    cases h18 : (t.kind == 18) with
    | true => exact ⟨_, rfl, plainOk (by decide)⟩
    | false =>
      exfalso
      simp at h10 h11 h12 h13 h14 h17 h18 h19 h20
      unfold isStmtK at hk
      omega

theorem stmtI_if (blk : Nat → List T → List Ins) (c : Nat) {t a b x y : T} (hk : t.kind = 15) (he : t.kids = [a, b, x, y]) :
    stmtI blk c t = branchI t (c + (blk (c + 1) x.kids).length + 2) :: (blk (c + 1) x.kids ++ jumpI t (c + (blk (c + 1) x.kids).length + (blk (c + (blk (c + 1) x.kids).length + 2) y.kids).length + 2) :: blk (c + (blk (c + 1) x.kids).length + 2) y.kids) := by
  have h2 : kidP t 2 = x := by unfold kidP; rw [he]; rfl
  have h3 : kidP t 3 = y := by unfold kidP; rw [he]; rfl
  unfold stmtI
  rw [hk, h2, h3]
  rfl
theorem stmtI_while (blk : Nat → List T → List Ins) (c : Nat) {t a b x : T} (hk : t.kind = 16) (he : t.kids = [a, b, x]) :
    stmtI blk c t = branchI t (c + (blk (c + 1) x.kids).length + 2) :: (blk (c + 1) x.kids ++ [jumpI t c]) := by
  have h2 : kidP t 2 = x := by unfold kidP; rw [he]; rfl
  unfold stmtI
  rw [hk, h2]
  rfl

/- How many there are. -/
theorem blockI_length : ∀ (n : Nat) (ks : List T), sizes ks ≤ n → KindsAre isStmtK ks → wholes ks → ∀ c, (blockI n c ks).length = counts ks
  | 0, ks, hn, _, _, c => by
    have : ks = [] := by
      cases ks with
      | nil => rfl
      | cons t ts => rw [sizes_cons] at hn; cases t; rw [size_mk] at hn; omega
    subst this
    rw [counts_nil]; rfl
  | n + 1, ks, hn, hk, hw, c => by
    show (stmtsI (blockI n) c ks).length = _
    induction ks generalizing c with
    | nil => rw [counts_nil]; rfl
    | cons t ts ih =>
      rw [sizes_cons] at hn
      have hts : t.size = 1 + sizes t.kids := by cases t; rw [size_mk]; rfl
      have hwt := wholes_cons.1 hw
      have hkt : isStmtK t.kind := hk t (by simp)
      rw [stmtsI, List.length_append, counts_cons, ih (by omega) (fun u hu => hk u (by simp [hu])) hwt.2]
      congr 1
      rw [count_eq]
      rcases stmt_form hwt.1 hkt with ⟨h15, a, b, x, y, he, hab, hxy, hwab, hx, hy⟩ | ⟨h16, a, b, x, he, hab, hx9, hwab, hx⟩ | ⟨h15, h16, h0⟩
      · have s1 : sizes t.kids = a.size + (b.size + (x.size + (y.size + 0))) := by rw [he, sizes_cons, sizes_cons, sizes_cons, sizes_cons, sizes_nil]
        have s2 : x.size = 1 + sizes x.kids := by cases x; rw [size_mk]; rfl
        have s3 : y.size = 1 + sizes y.kids := by cases y; rw [size_mk]; rfl
        have hbx := block_kids hx hxy.1
        have hby := block_kids hy hxy.2
        rw [stmtI_if _ _ h15 he, he, counts_cons, counts_cons, counts_cons, counts_cons, counts_nil, (count_term hwab.1 hab.1).1, (count_term hwab.2 hab.2).1, count_eq x, count_eq y, ownCount_no (k := x.kind) (by omega), ownCount_no (k := y.kind) (by omega), h15]
        simp only [List.length_cons, List.length_append]
        rw [blockI_length n x.kids (by omega) hbx.1 hbx.2, blockI_length n y.kids (by omega) hby.1 hby.2]
        show _ = 2 + _
        omega
      · have s1 : sizes t.kids = a.size + (b.size + (x.size + 0)) := by rw [he, sizes_cons, sizes_cons, sizes_cons, sizes_nil]
        have s2 : x.size = 1 + sizes x.kids := by cases x; rw [size_mk]; rfl
        have hbx := block_kids hx hx9
        rw [stmtI_while _ _ h16 he, he, counts_cons, counts_cons, counts_cons, counts_nil, (count_term hwab.1 hab.1).1, (count_term hwab.2 hab.2).1, count_eq x, ownCount_no (k := x.kind) (by omega), h16]
        simp only [List.length_cons, List.length_append, List.length_nil]
        rw [blockI_length n x.kids (by omega) hbx.1 hbx.2]
        show _ = 2 + _
        omega
      · obtain ⟨i, hi, _⟩ := stmtI_one (blockI n) c hkt h15 h16
        have e15 : (t.kind == 15) = false := by simp; omega
        have e16 : (t.kind == 16) = false := by simp; omega
        have e1 : (decide (10 ≤ t.kind) && decide (t.kind ≤ 20)) = true := by unfold isStmtK at hkt; simp; omega
        rw [hi, h0]
        unfold ownCount
        rw [e15, e16, e1]
        rfl

/- Where jumps go: the list stands at the numbers from c on; nothing goes beyond the number h. -/
def JOk (c h : Nat) (B : List Ins) : Prop := ∀ i x, B[i]? = some x →
  (x.op = 10 → c + i < x.to ∧ x.to ≤ h) ∧ (x.op = 11 → x.to ≤ h ∧ x.to ≠ c + i ∧ (x.to < c + i → c ≤ x.to ∧ ∃ y, B[x.to - c]? = some y ∧ y.op = 10)) ∧ (x.op ≠ 10 → x.op ≠ 11 → x.to = 0)
theorem JOk.nil {c h : Nat} : JOk c h [] := by intro i x hx; simp at hx
theorem JOk.mono {c h h' : Nat} {B : List Ins} (hb : JOk c h B) (hh : h ≤ h') : JOk c h' B := fun i x hx => by
  obtain ⟨h1, h2, h3⟩ := hb i x hx
  exact ⟨fun e => ⟨(h1 e).1, by have := (h1 e).2; omega⟩, fun e => ⟨by have := (h2 e).1; omega, (h2 e).2⟩, h3⟩
theorem JOk.append {c h : Nat} {A B : List Ins} (ha : JOk c h A) (hb : JOk (c + A.length) h B) : JOk c h (A ++ B) := by
  intro i x hx
  rcases Nat.lt_or_ge i A.length with hi | hi
  · rw [List.getElem?_append_left hi] at hx
    obtain ⟨h1, h2, h3⟩ := ha i x hx
    refine ⟨h1, fun e => ⟨(h2 e).1, (h2 e).2.1, fun hlt => ?_⟩, h3⟩
    obtain ⟨h4, y, hy, ho⟩ := (h2 e).2.2 hlt
    exact ⟨h4, y, by rw [List.getElem?_append_left (by omega)]; exact hy, ho⟩
  · rw [List.getElem?_append_right hi] at hx
    obtain ⟨h1, h2, h3⟩ := hb _ x hx
    refine ⟨fun e => ⟨by have := (h1 e).1; omega, (h1 e).2⟩, fun e => ⟨(h2 e).1, by have := (h2 e).2.1; omega, fun hlt => ?_⟩, h3⟩
    obtain ⟨h4, y, hy, ho⟩ := (h2 e).2.2 (by omega)
    exact ⟨by omega, y, by rw [List.getElem?_append_right (by omega), show x.to - c - A.length = x.to - (c + A.length) by omega]; exact hy, ho⟩
theorem JOk.one {c h : Nat} {x : Ins} (h1 : x.op = 10 → c < x.to ∧ x.to ≤ h) (h2 : x.op = 11 → c < x.to ∧ x.to ≤ h) (h3 : x.op ≠ 10 → x.op ≠ 11 → x.to = 0) : JOk c h [x] := by
  intro i y hy
  cases i with
  | zero =>
    obtain rfl : x = y := by simpa using hy
    exact ⟨h1, fun e => ⟨(h2 e).2, by have := (h2 e).1; omega, fun hlt => by have := (h2 e).1; omega⟩, h3⟩
  | succ i => simp at hy
theorem JOk.back {c h : Nat} {x j : Ins} {A : List Ins} (ha : JOk c h (x :: A)) (hx : x.op = 10) (hj : j.op = 11) (ht : j.to = c) (hc : c ≤ h) : JOk c h (x :: A ++ [j]) := by
  intro i y hy
  rcases Nat.lt_or_ge i (x :: A).length with hi | hi
  · rw [List.getElem?_append_left hi] at hy
    obtain ⟨h1, h2, h3⟩ := ha i y hy
    refine ⟨h1, fun e => ⟨(h2 e).1, (h2 e).2.1, fun hlt => ?_⟩, h3⟩
    obtain ⟨h4, z, hz, ho⟩ := (h2 e).2.2 hlt
    exact ⟨h4, z, by rw [List.getElem?_append_left (by omega)]; exact hz, ho⟩
  · rw [List.getElem?_append_right hi] at hy
    have hi0 : 0 < i := by simp at hi; omega
    cases hq : i - (x :: A).length with
    | zero =>
      rw [hq] at hy
      obtain rfl : j = y := by simpa using hy
      refine ⟨fun e => (by omega), fun _ => ⟨by omega, by omega, fun _ => ⟨by omega, x, ?_, hx⟩⟩, fun _ e => absurd hj e⟩
      rw [ht, Nat.sub_self]
      rfl
    | succ q => rw [hq] at hy; simp at hy

theorem blockI_jumps : ∀ (n : Nat) (ks : List T), sizes ks ≤ n → KindsAre isStmtK ks → wholes ks → ∀ c, JOk c (c + (blockI n c ks).length) (blockI n c ks)
  | 0, ks, _, _, _, c => JOk.nil
  | n + 1, ks, hn, hk, hw, c => by
    show JOk c (c + (stmtsI (blockI n) c ks).length) (stmtsI (blockI n) c ks)
    induction ks generalizing c with
    | nil => exact JOk.nil
    | cons t ts ih =>
      rw [sizes_cons] at hn
      have hts : t.size = 1 + sizes t.kids := by cases t; rw [size_mk]; rfl
      have hwt := wholes_cons.1 hw
      have hkt : isStmtK t.kind := hk t (by simp)
      rw [stmtsI, List.length_append]
      refine JOk.append ?_ (JOk.mono (ih (by omega) (fun u hu => hk u (by simp [hu])) hwt.2 _) (by omega))
      refine JOk.mono (h := c + (stmtI (blockI n) c t).length) ?_ (by omega)
      rcases stmt_form hwt.1 hkt with ⟨h15, a, b, x, y, he, hab, hxy, hwab, hx, hy⟩ | ⟨h16, a, b, x, he, hab, hx9, hwab, hx⟩ | ⟨h15, h16, h0⟩
      · have s1 : sizes t.kids = a.size + (b.size + (x.size + (y.size + 0))) := by rw [he, sizes_cons, sizes_cons, sizes_cons, sizes_cons, sizes_nil]
        have s2 : x.size = 1 + sizes x.kids := by cases x; rw [size_mk]; rfl
        have s3 : y.size = 1 + sizes y.kids := by cases y; rw [size_mk]; rfl
        have hbx := block_kids hx hxy.1
        have hby := block_kids hy hxy.2
        have j1 := blockI_jumps n x.kids (by omega) hbx.1 hbx.2 (c + 1)
        have j2 := blockI_jumps n y.kids (by omega) hby.1 hby.2 (c + (blockI n (c + 1) x.kids).length + 2)
        rw [stmtI_if _ _ h15 he]
        generalize blockI n (c + 1) x.kids = A at *
        generalize blockI n (c + A.length + 2) y.kids = B at *
        have hl : (branchI t (c + A.length + 2) :: (A ++ jumpI t (c + A.length + B.length + 2) :: B)).length = A.length + B.length + 2 := by simp; omega
        rw [hl]
        refine JOk.append (A := [branchI t (c + A.length + 2)]) (B := A ++ jumpI t (c + A.length + B.length + 2) :: B) ?_ (JOk.append (j1.mono (by omega)) (JOk.append (A := [jumpI t (c + A.length + B.length + 2)]) (B := B) ?_ ?_))
        · refine JOk.one (fun _ => ?_) (fun e => absurd (show (10 : Int) = 11 from e) (by decide)) (fun e => absurd rfl e)
          show c < c + A.length + 2 ∧ c + A.length + 2 ≤ c + (A.length + B.length + 2)
          omega
        · refine JOk.one (fun e => absurd (show (11 : Int) = 10 from e) (by decide)) (fun _ => ?_) (fun _ e => absurd rfl e)
          show c + 1 + A.length < c + A.length + B.length + 2 ∧ c + A.length + B.length + 2 ≤ c + (A.length + B.length + 2)
          omega
        · have e1 : c + [branchI t (c + A.length + 2)].length + A.length + [jumpI t (c + A.length + B.length + 2)].length = c + A.length + 2 := by simp only [List.length_cons, List.length_nil]; omega
          rw [e1]
          exact j2.mono (by omega)
      · have s1 : sizes t.kids = a.size + (b.size + (x.size + 0)) := by rw [he, sizes_cons, sizes_cons, sizes_cons, sizes_nil]
        have s2 : x.size = 1 + sizes x.kids := by cases x; rw [size_mk]; rfl
        have hbx := block_kids hx hx9
        have j1 := blockI_jumps n x.kids (by omega) hbx.1 hbx.2 (c + 1)
        rw [stmtI_while _ _ h16 he]
        generalize blockI n (c + 1) x.kids = A at *
        have hl : (branchI t (c + A.length + 2) :: (A ++ [jumpI t c])).length = A.length + 2 := by simp
        rw [hl]
        refine JOk.back (A := A) (JOk.append (A := [branchI t (c + A.length + 2)]) (B := A) ?_ (j1.mono (by omega))) rfl rfl rfl (by omega)
        refine JOk.one (fun _ => ?_) (fun e => absurd (show (10 : Int) = 11 from e) (by decide)) (fun e => absurd rfl e)
        show c < c + A.length + 2 ∧ c + A.length + 2 ≤ c + (A.length + 2)
        omega
      · obtain ⟨i, hi, h10, h11, hto, _⟩ := stmtI_one (blockI n) c hkt h15 h16
        rw [hi]
        exact JOk.one (fun e => absurd e h10) (fun e => absurd e h11) (fun _ _ => hto)

end Go.Proofs.YtnmpfpnldcgbaaaDoor
