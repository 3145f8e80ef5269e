/- Names in trees that were read: each function has one, each call and fork tells one; so what link.Link asks of its trees holds of all that Parse answers. Nothing of the program is walked here. -/
import Derived.Test.YtnmpfpnldcgbaaaDoorLnkP
import Derived.Test.YtnmpfpnldcgbaaaDoorLnk6
import Derived.Test.YtnmpfpnldcgbaaaDoorP36
namespace Go.Proofs.YtnmpfpnldcgbaaaDoor
open Go.RowKit

theorem goods_mem : ∀ {ks : List T} {t : T}, goods ks = true → t ∈ ks → t.good = true
  | a :: ks, t, h, hm => by
    rw [goods_cons, Bool.and_eq_true] at h
    rcases List.mem_cons.1 hm with rfl | hm
    · exact h.1
    · exact goods_mem h.2 hm
theorem good_kids {t : T} (h : t.good = true) : goods t.kids = true := by
  cases t
  rw [good_mk, Bool.and_eq_true] at h
  exact h.2
theorem good_name {t : T} (h : t.good = true) (hk : t.kind = 6 ∨ t.kind = 19 ∨ t.kind = 28) : isNameB t.text = true := by
  obtain ⟨k, s, n, p, ks⟩ := t
  rw [good_mk, Bool.and_eq_true] at h
  have h1 := h.1
  unfold nodeB at h1
  simp only [Bool.and_eq_true] at h1
  have h2 := h1.2.2
  have hk' : k = 6 ∨ k = 19 ∨ k = 28 := hk
  unfold textB at h2
  rcases hk' with rfl | rfl | rfl <;> exact h2
theorem name_size {s : ByteArray} (h : isNameB s = true) : s.size ≤ maxLen := by
  unfold isNameB at h
  simp only [Bool.and_eq_true, decide_eq_true_eq] at h
  have := h.1.1.1.2
  unfold maxLen
  omega
theorem stmt_named (blk : Nat → List T → List Ins) (c : Nat) {t : T} (hw : t.whole) (hg : t.good = true) (_ : isStmtK t.kind) (h15 : t.kind ≠ 15) (h16 : t.kind ≠ 16) : ∀ i ∈ stmtI blk c t, (i.op = 12 ∨ i.op = 13) → i.y.size ≤ maxLen := by
  have e15 : (t.kind == 15) = false := by simp; omega
  have e16 : (t.kind == 16) = false := by simp; omega
  intro i hi ho
  unfold stmtI at hi
  rw [e15, e16] at hi
  cases h10 : (t.kind == 10) with
  | true =>
    rw [h10] at hi
    obtain rfl : i = setI t := by simpa using hi
    have hka : ∃ a, t.kids = [a] := by
      have h1 := (whole_eq.1 hw).1
      have hk10 : t.kind = 10 := by simpa using h10
      rw [hk10] at h1
      generalize t.kids = ks at *
      cases h1 with
      | @set a e ha => exact ⟨a, rfl⟩
      | unit e | type e | none e | one e | two e | fn e | param e | block e | cond e | loop e | call1 e | load e | call e | leaf e => omega
    obtain ⟨a, ha⟩ := hka
    have hga : a.good = true := goods_mem (good_kids hg) (by rw [ha]; simp)
    have hp : kidP t 0 = a := by unfold kidP; rw [ha]; rfl
    unfold setI at ho ⊢
    rw [hp] at ho ⊢
    cases h1 : (a.kind == 5) with
    | true => rw [h1] at ho; exact absurd (show (0 : Int) = 12 ∨ (0 : Int) = 13 from ho) (by decide)
    | false =>
    cases h2 : (a.kind == 26 || a.kind == 27) with
    | true => rw [h1, h2] at ho; exact absurd (show (0 : Int) = 12 ∨ (0 : Int) = 13 from ho) (by decide)
    | false =>
    cases h3 : (a.kind == 21) with
    | true => rw [h1, h2, h3] at ho; exact absurd (show (1 : Int) = 12 ∨ (1 : Int) = 13 from ho) (by decide)
    | false =>
    cases h4 : (a.kind == 22) with
    | true => rw [h1, h2, h3, h4] at ho; exact absurd (show (2 : Int) = 12 ∨ (2 : Int) = 13 from ho) (by decide)
    | false =>
    cases h5 : (a.kind == 23) with
    | true => rw [h1, h2, h3, h4, h5] at ho; exact absurd (show (3 : Int) = 12 ∨ (3 : Int) = 13 from ho) (by decide)
    | false =>
    cases h6 : (a.kind == 24) with
    | true => rw [h1, h2, h3, h4, h5, h6] at ho; exact absurd (show (4 : Int) = 12 ∨ (4 : Int) = 13 from ho) (by decide)
    | false =>
    cases h7 : (a.kind == 25) with
    | true => rw [h1, h2, h3, h4, h5, h6, h7] at ho; exact absurd (show (5 : Int) = 12 ∨ (5 : Int) = 13 from ho) (by decide)
    | false =>
    cases h8 : (a.kind == 28) with
    | true => exact name_size (good_name hga (.inr (.inr (by simpa using h8))))
    | false => rw [h1, h2, h3, h4, h5, h6, h7, h8] at ho; exact absurd (show (0 : Int) = 12 ∨ (0 : Int) = 13 from ho) (by decide)
  | false =>
    rw [h10] at hi
    unfold simpleI at hi
    cases h11 : (t.kind == 11) with
    | true => rw [h11] at hi; obtain rfl := List.mem_singleton.1 hi; exact absurd (show (6 : Int) = 12 ∨ (6 : Int) = 13 from ho) (by decide)
    | false =>
    cases h12 : (t.kind == 12) with
    | true => rw [h11, h12] at hi; obtain rfl := List.mem_singleton.1 hi; exact absurd (show (7 : Int) = 12 ∨ (7 : Int) = 13 from ho) (by decide)
    | false =>
    cases h13 : (t.kind == 13) with
    | true => rw [h11, h12, h13] at hi; obtain rfl := List.mem_singleton.1 hi; exact absurd (show (8 : Int) = 12 ∨ (8 : Int) = 13 from ho) (by decide)
    | false =>
    cases h14 : (t.kind == 14) with
    | true => rw [h11, h12, h13, h14] at hi; obtain rfl := List.mem_singleton.1 hi; exact absurd (show (9 : Int) = 12 ∨ (9 : Int) = 13 from ho) (by decide)
    | false =>
    cases h20 : (t.kind == 20) with
    | true =>
      rw [h11, h12, h13, h14, h20] at hi
      obtain rfl := List.mem_singleton.1 hi
      have hka : ∃ a, t.kids = [a] ∧ a.kind = 28 := by
        have h1 := (whole_eq.1 hw).1
        have hk20 : t.kind = 20 := by simpa using h20
        rw [hk20] at h1
        generalize t.kids = ks at *
        cases h1 with
        | @call1 a e ha => exact ⟨a, rfl, ha⟩
        | unit e | type e | none e | one e | two e | fn e | param e | block e | set e | cond e | loop e | load e | call e | leaf e => omega
      obtain ⟨a, ha, hak⟩ := hka
      have hga : a.good = true := goods_mem (good_kids hg) (by rw [ha]; simp)
      have hp : kidP t 0 = a := by unfold kidP; rw [ha]; rfl
      show (kidP t 0).text.size ≤ maxLen
      rw [hp]
      exact name_size (good_name hga (.inr (.inr hak)))
    | false =>
    cases h19 : (t.kind == 19) with
    | true =>
      rw [h11, h12, h13, h14, h20, h19] at hi
      obtain rfl := List.mem_singleton.1 hi
      exact name_size (good_name hg (.inr (.inl (by simpa using h19))))
    | false =>
    cases h17 : (t.kind == 17) with
    | true => rw [h11, h12, h13, h14, h20, h19, h17] at hi; obtain rfl := List.mem_singleton.1 hi; exact absurd (show (14 : Int) = 12 ∨ (14 : Int) = 13 from ho) (by decide)
    | false =>
    cases h18 : (t.kind == 18) with
    | true => rw [h11, h12, h13, h14, h20, h19, h17, h18] at hi; obtain rfl := List.mem_singleton.1 hi; exact absurd (show (15 : Int) = 12 ∨ (15 : Int) = 13 from ho) (by decide)
    | false => rw [h11, h12, h13, h14, h20, h19, h17, h18] at hi; simp at hi
theorem blockI_named : ∀ (n : Nat) (ks : List T), sizes ks ≤ n → KindsAre isStmtK ks → wholes ks → goods ks = true → ∀ c, ∀ i ∈ blockI n c ks, (i.op = 12 ∨ i.op = 13) → i.y.size ≤ maxLen
  | 0, ks, _, _, _, _, c, i, hi, _ => by simp [blockI] at hi
  | n + 1, ks, hn, hk, hw, hg, c, i, hi, ho => by
    have hi' : i ∈ stmtsI (blockI n) c ks := hi
    clear hi
    induction ks generalizing c with
    | nil => simp [stmtsI] at hi'
    | cons t ts ih =>
      rw [sizes_cons] at hn
      have hts : t.size = 1 + sizes t.kids := by cases t; rw [size_mk]; rfl
      have hwt := wholes_cons.1 hw
      have hgt : t.good = true ∧ goods ts = true := by rw [goods_cons, Bool.and_eq_true] at hg; exact hg
      have hkt : isStmtK t.kind := hk t (by simp)
      rw [stmtsI, List.mem_append] at hi'
      rcases hi' with hi | hi
      · rcases stmt_form hwt.1 hkt with ⟨h15, a, b, x, y, he, hab, hxy, hwab, hx, hy⟩ | ⟨h16, a, b, x, he, hab, hx9, hwab, hx⟩ | ⟨h15, h16, h0⟩
        · have s1 : sizes t.kids = a.size + (b.size + (x.size + (y.size + 0))) := by rw [he, sizes_cons, sizes_cons, sizes_cons, sizes_cons, sizes_nil]
          have s2 : x.size = 1 + sizes x.kids := by cases x; rw [size_mk]; rfl
          have s3 : y.size = 1 + sizes y.kids := by cases y; rw [size_mk]; rfl
          have hbx := block_kids hx hxy.1
          have hby := block_kids hy hxy.2
          have gx : x.good = true := goods_mem (good_kids hgt.1) (by rw [he]; simp)
          have gy : y.good = true := goods_mem (good_kids hgt.1) (by rw [he]; simp)
          rw [stmtI_if _ _ h15 he] at hi
          simp only [List.mem_cons, List.mem_append] at hi
          rcases hi with rfl | hi | rfl | hi
          · exact absurd ho (by show ¬ ((10 : Int) = 12 ∨ (10 : Int) = 13); omega)
          · exact blockI_named n x.kids (by omega) hbx.1 hbx.2 (good_kids gx) _ i hi ho
          · exact absurd ho (by show ¬ ((11 : Int) = 12 ∨ (11 : Int) = 13); omega)
          · exact blockI_named n y.kids (by omega) hby.1 hby.2 (good_kids gy) _ i hi ho
        · have s1 : sizes t.kids = a.size + (b.size + (x.size + 0)) := by rw [he, sizes_cons, sizes_cons, sizes_cons, sizes_nil]
          have s2 : x.size = 1 + sizes x.kids := by cases x; rw [size_mk]; rfl
          have hbx := block_kids hx hx9
          have gx : x.good = true := goods_mem (good_kids hgt.1) (by rw [he]; simp)
          rw [stmtI_while _ _ h16 he] at hi
          simp only [List.mem_cons, List.mem_append, List.not_mem_nil, or_false] at hi
          rcases hi with rfl | hi | rfl
          · exact absurd ho (by show ¬ ((10 : Int) = 12 ∨ (10 : Int) = 13); omega)
          · exact blockI_named n x.kids (by omega) hbx.1 hbx.2 (good_kids gx) _ i hi ho
          · exact absurd ho (by show ¬ ((11 : Int) = 12 ∨ (11 : Int) = 13); omega)
        · exact stmt_named (blockI n) c hwt.1 hgt.1 hkt h15 h16 i hi ho
      · exact ih (by omega) (fun u hu => hk u (by simp [hu])) hwt.2 hgt.2 _ hi
theorem fn_named {t : T} (hw : t.whole) (hg : t.good = true) (hs : t.size ≤ 5000) : YOk (lowerI t).list := by
  by_cases h6 : t.kind = 6
  · obtain ⟨xs, r, b, he, hx, hwx, hr, hb, hsz, hl⟩ := fn_form hw h6
    have hts : t.size = 1 + sizes t.kids := by cases t; rw [size_mk]; rfl
    have hbk := block_kids hb.2 hb.1
    have gb : b.good = true := goods_mem (good_kids hg) (by rw [he]; simp)
    intro i hi ho
    rw [hl] at hi
    have hi' : i ∈ blockI 5000 0 b.kids ++ [retI b] := hi
    rw [List.mem_append] at hi'
    rcases hi' with hi | hi
    · exact blockI_named 5000 b.kids (by omega) hbk.1 hbk.2 (good_kids gb) _ i hi ho
    · obtain rfl : i = retI b := by simpa using hi
      exact absurd ho (by show ¬ ((14 : Int) = 12 ∨ (14 : Int) = 13); omega)
  · rw [fn_not h6]
    intro i hi
    simp [cod0] at hi

/- What Link asks of a tree. -/
structure LinkOk (t : T) : Prop where
  w : t.whole
  s : t.size ≤ 4990
  n : NamesOk t.kids
  y : ∀ u ∈ t.kids, YOk (lowerI u).list
theorem parse_linkOk (s : ByteArray) : LinkOk (parseB s).1 := by
  have hw := (parse_whole s).2
  have hg := parse_good s
  have hts : (parseB s).1.size = 1 + sizes (parseB s).1.kids := by cases (parseB s).1; rw [size_mk]; rfl
  refine ⟨hw, by omega, fun t ht h6 => name_size (good_name (goods_mem (good_kids hg.1) ht) (.inl h6)), fun t ht => ?_⟩
  obtain ⟨q, hq⟩ := List.mem_iff_getElem?.1 ht
  have h1 := sizes_mem hq
  exact fn_named (wholes_mem (whole_eq.1 hw).2 ht) (goods_mem (good_kids hg.1) ht) (by omega)
theorem link_ok {w : World} {a b : T} {av bv : Value} {Sa Sb : Nat → Prop} (ha : KAt 25 w a.kids Sa av) (hb : KAt 25 w b.kids Sb bv) (ga : LinkOk a) (gb : LinkOk b) :
    Calls Tryd.prog 26 #[NodeV a av, NodeV b bv] w (LinkPost w (linkL a b)) :=
  link_any ha hb ga.w gb.w ga.s gb.s ga.n gb.n ga.y gb.y

end Go.Proofs.YtnmpfpnldcgbaaaDoor
