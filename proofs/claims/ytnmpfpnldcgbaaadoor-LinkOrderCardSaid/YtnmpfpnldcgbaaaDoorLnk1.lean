/- The plain account of layer 8: how two trees are linked; codes in a slice in memory; the map of names. Nothing of the program is walked here. -/
import Derived.Test.YtnmpfpnldcgbaaaDoorP33
import Derived.Maps.OwnSet
import Derived.Maps.OwnOps
namespace Go.Proofs.YtnmpfpnldcgbaaaDoor
open Go.RowKit Go.Maps

/- The number of the first code of that name. -/
def findN : List Cod → ByteArray → Option Nat
  | [], _ => none
  | c :: cs, s => bif c.name.toList == s.toList then some 0 else (findN cs s).map (· + 1)
/- The functions of a tree, laid out behind those that are there; the place of the first one whose name is there. -/
def addL : List Cod → List T → List Cod × Option Nat
  | cs, [] => (cs, none)
  | cs, t :: ts => bif t.kind == 6 then (bif (findN cs t.text).isSome then (cs, some t.place) else addL (cs ++ [lowerI t]) ts) else addL cs ts
/- What keeps an instruction from being linked. -/
def resL (cs : List Cod) (libs : Nat) (i : Ins) : Int :=
  bif i.op == 12 || i.op == 13 then
    match findN cs i.y with
    | none => 31
    | some k => bif (decide (k < libs)) != (i.op == 12) then 31 else bif ((cs.getD k cod0).params.length : Int) != (i.args.length : Int) then 51 else 0
  else 0
/- The place and the error of the first instruction at fault. -/
def chkL (cs : List Cod) (libs : Nat) : List Ins → Nat × Int
  | [] => (0, 0)
  | i :: is => bif resL cs libs i != 0 then (i.place, resL cs libs i) else chkL cs libs is
/- Of all functions: the place, whether it is the client's, the error. -/
def allL (cs : List Cod) (libs : Nat) : Nat → List Cod → Nat × Bool × Int
  | _, [] => (0, false, 0)
  | k, c :: rest => bif (chkL cs libs c.list).2 != 0 then ((chkL cs libs c.list).1, decide (libs ≤ k), (chkL cs libs c.list).2) else allL cs libs (k + 1) rest
def mainS : ByteArray := ⟨#[109, 97, 105, 110]⟩
def mainL (cs : List Cod) (libs : Nat) : Option Nat :=
  match findN cs mainS with
  | none => none
  | some k => bif decide (k < libs) || decide (0 < (cs.getD k cod0).params.length) then none else some k
structure Img where
  codes : List Cod
  libs : Nat
  main : Nat
def img0 : Img := ⟨[], 0, 0⟩
def linkL (a b : T) : Img × Nat × Bool × Int :=
  match addL [] a.kids with
  | (_, some p) => (img0, p, false, 30)
  | (cs, none) =>
    match addL cs b.kids with
    | (_, some p) => (img0, p, true, 30)
    | (ds, none) =>
      bif (allL ds cs.length 0 ds).2.2 != 0 then (img0, allL ds cs.length 0 ds)
      else match mainL ds cs.length with
        | none => (img0, 0, true, 55)
        | some m => (⟨ds, cs.length, m⟩, 0, false, 0)

theorem findN_lt : ∀ {cs : List Cod} {s : ByteArray} {k : Nat}, findN cs s = some k → k < cs.length
  | [], s, k, h => by simp [findN] at h
  | c :: cs, s, k, h => by
    rw [findN] at h
    cases hq : (c.name.toList == s.toList) with
    | true => rw [hq] at h; simp at h; simp; omega
    | false =>
      rw [hq] at h
      simp only [cond_false, Option.map_eq_some_iff] at h
      obtain ⟨j, hj, rfl⟩ := h
      have := findN_lt hj
      simp; omega
theorem findN_snoc : ∀ (cs : List Cod) (c : Cod) (s : ByteArray), findN (cs ++ [c]) s = match findN cs s with | some k => some k | none => bif c.name.toList == s.toList then some cs.length else none
  | [], c, s => by
    rw [List.nil_append, findN, findN]
    cases (c.name.toList == s.toList) <;> rfl
  | a :: cs, c, s => by
    rw [List.cons_append, findN, findN, findN_snoc cs c s]
    cases (a.name.toList == s.toList) with
    | true => rfl
    | false =>
      cases findN cs s with
      | some k => rfl
      | none => cases (c.name.toList == s.toList) <;> rfl

/- Codes in memory. -/
def codRow : List Cod → List (Value × Value) → List Value
  | c :: cs, u :: us => codCells c u.1 u.2 ++ codRow cs us
  | _, _ => []
def AllCods (w : World) : List Cod → (Nat → Prop) → List (Value × Value) → Prop
  | [], _, us => us = []
  | c :: cs, S, us => ∃ u us', us = u :: us' ∧ CodAt w c S u.1 u.2 ∧ AllCods w cs S us'
def CodsAt (w : World) (cs : List Cod) (S : Nat → Prop) (v : Value) : Prop :=
  ∃ us, w.ownsRow 0 55 3 v cs.length (codRow cs us) ∧ (∀ g, v.ownBlock = some g → S g) ∧ AllCods w cs (fun b => S b ∧ v.ownBlock ≠ some b) us

theorem CodAt.keep {w w' : World} {c : Cod} {S S' : Nat → Prop} {p l : Value} (h : CodAt w c S p l) (hk : ∀ b, S b → b < w.heap.size → S' b ∧ w'.heap[b]? = w.heap[b]?) : CodAt w' c S' p l := ⟨h.1.keep hk, h.2.keep hk⟩
theorem CodAt.one {w : World} {c : Cod} {S : Nat → Prop} {p l : Value} (h : CodAt w c S p l) : ∀ u ∈ codCells c p l, u.oneCell' = true := by
  obtain ⟨_, _, rfl⟩ := h.1.slice
  obtain ⟨_, _, rfl⟩ := h.2.slice
  intro u hu
  simp only [codCells, List.mem_cons, List.not_mem_nil, or_false] at hu
  rcases hu with rfl | rfl | rfl <;> rfl
theorem AllCods.keep {w w' : World} : ∀ (cs : List Cod) {S S' : Nat → Prop} {us : List (Value × Value)}, AllCods w cs S us → (∀ b, S b → b < w.heap.size → S' b ∧ w'.heap[b]? = w.heap[b]?) → AllCods w' cs S' us
  | [], _, _, _, h, _ => h
  | c :: cs, S, S', us, h, hk => by
    obtain ⟨u, us', e, ha, hs⟩ := h
    exact ⟨u, us', e, ha.keep hk, AllCods.keep cs hs hk⟩
theorem CodsAt.keep {w w' : World} {cs : List Cod} {S S' : Nat → Prop} {v : Value} (h : CodsAt w cs S v) (hk : ∀ b, S b → b < w.heap.size → S' b ∧ w'.heap[b]? = w.heap[b]?) : CodsAt w' cs S' v := by
  obtain ⟨us, ho, hS, ha⟩ := h
  exact ⟨us, ownsRow_keep ho fun g hg => (hk g (hS g hg) (ho.lt g hg).2).2, fun g hg => (hk g (hS g hg) (ho.lt g hg).2).1, AllCods.keep cs ha fun b hb hl => ⟨⟨(hk b hb.1 hl).1, hb.2⟩, (hk b hb.1 hl).2⟩⟩
theorem CodsAt.below {w w' : World} {cs : List Cod} {S : Nat → Prop} {v : Value} (h : CodsAt w cs S v) (hk : Below w.heap.size w w') : CodsAt w' cs S v := h.keep fun b hb hl => ⟨hb, hk.block b hl⟩
theorem CodsAt.drew {w : World} {cs : List Cod} {S : Nat → Prop} {v : Value} (h : CodsAt w cs S v) : CodsAt w.drew cs S v := h.keep fun _ hb _ => ⟨hb, rfl⟩
theorem CodsAt.nil (w : World) (S : Nat → Prop) : CodsAt w [] S (.slice none 0 0) := ⟨[], World.ownsRow_nil _ _ _ _, (fun g h => by simp [Value.ownBlock] at h), rfl⟩
theorem AllCods.length {w : World} : ∀ {cs : List Cod} {S : Nat → Prop} {us : List (Value × Value)}, AllCods w cs S us → us.length = cs.length
  | [], _, _, h => by rw [show _ = [] from h]; rfl
  | c :: cs, _, _, h => by obtain ⟨u, us', rfl, _, h'⟩ := h; simp [AllCods.length h']
theorem AllCods.snoc {w : World} : ∀ {cs : List Cod} {c : Cod} {S : Nat → Prop} {us : List (Value × Value)} {u : Value × Value}, AllCods w cs S us → CodAt w c S u.1 u.2 → AllCods w (cs ++ [c]) S (us ++ [u])
  | [], c, _, us, u, h, h' => by rw [show us = [] from h]; exact ⟨u, [], rfl, h', rfl⟩
  | a :: cs, c, _, _, u, h, h' => by
    obtain ⟨v, us', rfl, ha, hs⟩ := h
    exact ⟨v, us' ++ [u], rfl, ha, AllCods.snoc hs h'⟩
theorem codRow_snoc : ∀ (cs : List Cod) (c : Cod) (us : List (Value × Value)) (u : Value × Value), us.length = cs.length → codRow (cs ++ [c]) (us ++ [u]) = codRow cs us ++ codCells c u.1 u.2
  | [], c, [], u, _ => by simp [codRow]
  | a :: cs, c, v :: us, u, h => by
    simp only [List.cons_append, codRow, List.append_assoc]
    rw [codRow_snoc cs c us u (by simpa using h)]
theorem codRow_get : ∀ (cs : List Cod) (us : List (Value × Value)) (k : Nat) (c : Cod) (u : Value × Value) (j : Nat), cs[k]? = some c → us[k]? = some u → j < 3 → (codRow cs us)[k * 3 + j]? = (codCells c u.1 u.2)[j]?
  | [], _, k, t, u, j, h, _, _ => by simp at h
  | _ :: _, [], k, t, u, j, _, h, _ => by simp at h
  | a :: ks, b :: vs, 0, t, u, j, h, h', hj => by
    obtain rfl : a = t := by simpa using h
    obtain rfl : b = u := by simpa using h'
    rw [codRow, Nat.zero_mul, Nat.zero_add, List.getElem?_append_left (by simpa [codCells] using hj)]
  | a :: ks, b :: vs, k + 1, t, u, j, h, h', hj => by
    rw [codRow, List.getElem?_append_right (by simp [codCells]; omega)]
    have e : (k + 1) * 3 + j - (codCells a b.1 b.2).length = k * 3 + j := by simp [codCells]; omega
    rw [e]
    exact codRow_get ks vs k t u j (by simpa using h) (by simpa using h') hj
theorem AllCods.get {w : World} : ∀ {cs : List Cod} {S : Nat → Prop} {us : List (Value × Value)}, AllCods w cs S us → ∀ {k : Nat} {c : Cod}, cs[k]? = some c → ∃ u, us[k]? = some u ∧ CodAt w c S u.1 u.2
  | [], _, _, _, k, t, h => by simp at h
  | a :: ts, S, vs, h, 0, t, hk => by
    obtain ⟨v, vs', rfl, ht, _⟩ := h
    obtain rfl : a = t := by simpa using hk
    exact ⟨v, rfl, ht⟩
  | a :: ts, S, vs, h, k + 1, t, hk => by
    obtain ⟨v, vs', rfl, _, hts⟩ := h
    obtain ⟨u, hu, ht⟩ := AllCods.get hts (k := k) (c := t) (by simpa using hk)
    exact ⟨u, by simpa using hu, ht⟩
theorem CodsAt.slice {w : World} {cs : List Cod} {S : Nat → Prop} {v : Value} (h : CodsAt w cs S v) : ∃ a c, v = .slice a cs.length c := by
  obtain ⟨_, ho, _⟩ := h
  rcases ho.2 with ⟨rfl, h0⟩ | ⟨g, cap, _, rfl, _⟩
  · exact ⟨_, _, by rw [h0]⟩
  · exact ⟨_, _, rfl⟩
/- A code in the slice. -/
theorem CodsAt.form {w : World} {cs : List Cod} {S : Nat → Prop} {v : Value} (h : CodsAt w cs S v) : (v = .slice none 0 0 ∧ cs = []) ∨ ∃ g cap, v = .slice (some ⟨g, 0, none⟩) cs.length cap ∧ (S g ∧ g < w.heap.size) ∧ cs.length ≤ cap ∧ cap ≤ maxLen ∧
    ∀ k c, cs[k]? = some c → ∃ p l, w.rangeAt g (k * 3) (codCells c p l) ∧ CodAt w c S p l := by
  obtain ⟨us, ho, hS, hts⟩ := h
  have ho' := ho
  rcases ho.2 with ⟨rfl, h0⟩ | ⟨g, cap, cur, rfl, hb, hg, hnc, hcm, hcs, htake⟩
  · exact .inl ⟨rfl, List.eq_nil_of_length_eq_zero h0⟩
  · refine .inr ⟨g, cap, rfl, ⟨hS g rfl, (Array.getElem?_eq_some_iff.1 hg).1⟩, hnc, hcm, fun k c hk => ?_⟩
    obtain ⟨u, hu, ht⟩ := hts.get hk
    refine ⟨u.1, u.2, fun j x hj => ?_, ht.keep fun b hb hl => ⟨hb.1, rfl⟩⟩
    have hj5 : j < 3 := by have := (List.getElem?_eq_some_iff.1 hj).1; simpa [codCells] using this
    have hlt : k < cs.length := (List.getElem?_eq_some_iff.1 hk).1
    rw [ho'.cellAt (k * 3 + j) (by omega), codRow_get cs us k c u j hk hu hj5]
    exact hj
theorem codRow_length {w : World} : ∀ {cs : List Cod} {S : Nat → Prop} {us : List (Value × Value)}, AllCods w cs S us → (codRow cs us).length = cs.length * 3
  | [], _, _, _ => by simp [codRow]
  | c :: cs, _, _, h => by
    obtain ⟨u, us', rfl, _, hs⟩ := h
    simp only [codRow, List.length_append, codRow_length hs, List.length_cons]
    show 3 + _ = _
    omega
/- append of one code that lies in a new block. -/
theorem wp_append_cod {P : Program} {o : Oper} {a : Act} {w : World} {K : Act → World → Prop} {Q : Exit → Act → World → Prop} (s x : Operand) {t : TypeId} (ho : o.op = .call { callee := .builtin .append, args := #[s, x], argTypes := #[t, t] })
    {i : TypeInfo} {z : Value} (I : RowInfo P t 55 3 64 i z) {cs : List Cod} {c : Cod} {S : Nat → Prop} {v p l : Value} (hs : a.eval s = v) (hk : CodsAt w cs S v) (hS : S w.heap.size) {b cc : Nat} (hx : a.eval x = .slice (some ⟨b, 0, none⟩) 1 cc)
    (hg : Blk w b (codCells c p l) 55) (hc : CodAt w c (fun b => S b ∧ v.ownBlock ≠ some b) p l) (hb : cs.length + 1 ≤ 2000000)
    (h : ∀ v' w', CodsAt w' (cs ++ [c]) S v' → w.grownBy w' v.ownBlock → (v'.ownBlock = v.ownBlock ∨ v'.ownBlock = some w.heap.size) → K (a.put o.dst v') w') : o.wp P a w K Q := by
  obtain ⟨us, hown, hSv, hks⟩ := hk
  have hnews : ∀ j y, (codCells c p l)[j]? = some y → w.cell? ((⟨b, 0, none⟩ : Addr).add j) = some y := fun j y hj => by rw [Addr.add_mid, Nat.zero_add, hg.cell j]; exact hj
  have hbb : (cs.length + 1) * 64 ≤ 140737488355328 := by omega
  obtain ⟨v', w', hr, ho', hg', _⟩ := run_append_own (P := P) w 0 t o.type 55 i z 3 64 I.ht I.hi I.hz I.size I.bytes I.zs (by decide) v cs.length (codRow cs us) hown ⟨b, 0, none⟩ 1 cc (codCells c p l) rfl hnews hc.one (by unfold maxLen; omega) hbb (Nat.zero_le _)
  have hbk := append_blockN (ty := o.type) I.ht I.hi I.hz I.size I.bytes hown (by omega) rfl hnews hc.one (by unfold maxLen; omega) hbb hr
  unfold Oper.wp execOp
  simp only [ho, resolve, invoke, builtin, Sem.run_bind, Sem.run_pure, Result.andThen_ok, List.map_toArray, List.map_cons, List.map_nil, hs, hx]
  rw [hr]
  have keep : ∀ b, (S b ∧ v.ownBlock ≠ some b) → b < w.heap.size → (S b ∧ v'.ownBlock ≠ some b) ∧ w'.heap[b]? = w.heap[b]? := fun b hb hl => by
    refine ⟨⟨hb.1, fun h => ?_⟩, hg'.block b hl (Ne.symm hb.2)⟩
    rcases hbk with h' | h'
    · exact hb.2 (h' ▸ h)
    · rw [h'] at h; cases h; exact absurd hl (Nat.lt_irrefl _)
  refine h v' w' ⟨us ++ [(p, l)], ?_, ?_, ?_⟩ hg' hbk
  · rw [codRow_snoc _ _ _ _ hks.length, List.length_append]
    exact ho'
  · intro g hg2
    rcases hbk with h | h
    · exact hSv g (h ▸ hg2)
    · rw [h] at hg2; cases hg2; exact hS
  · exact AllCods.snoc (AllCods.keep _ hks keep) (hc.keep keep)
theorem Tryd.codeInfo : ∃ i z, RowInfo Tryd.prog 58 55 3 64 i z := by
  have h : (Tryd.prog.info? 55).map (fun i => (i.zero, i.size, i.bytes)) = some (some (.agg #[.string ⟨#[]⟩, .slice none 0 0, .slice none 0 0]), 3, 64) := by kernel_rfl
  obtain ⟨i0, hi, hz0, hz1, hz2⟩ := info_parts h
  exact ⟨i0, _, Tryd.underlying58, hi, hz0, hz1, hz2, rfl⟩

/- The map of names: which codes there are, by their first number. -/
def keyL (s : ByteArray) : Lit := .string s.data.toList
def MapAt (w : World) (b : Nat) (cs : List Cod) : Prop :=
  ∃ (n : Nat) (D : DataW Unit), w.ownsMap Tryd.prog 9 (plainElem Tryd.prog 3) b n D ∧ n ≤ cs.length ∧ IsMap D ∧ ∀ s : ByteArray, Maps.has D (keyL s) = (findN cs s).isSome ∧ ∀ k, findN cs s = some k → D.atKey (keyL s) (.lit (.int .i64 0)) = .lit (.int .i64 k)
theorem MapAt.kept {w w' : World} {b : Nat} {cs : List Cod} {row : Option Nat} (h : MapAt w b cs) (hg : w.grownBy w' row) (hne : some b ≠ row) : MapAt w' b cs := by
  obtain ⟨n, D, h1, h2, h3, h4⟩ := h
  exact ⟨n, D, h1.kept hg hne, h2, h3, h4⟩
theorem MapAt.lt {w : World} {b : Nat} {cs : List Cod} (h : MapAt w b cs) : b < w.heap.size := by
  obtain ⟨n, D, h1, _⟩ := h
  exact h1.lt
theorem MapAt.below {w w' : World} {b : Nat} {cs : List Cod} (h : MapAt w b cs) (hb : Below w.heap.size w w') : MapAt w' b cs :=
  h.kept (row := none) ⟨hb.os, hb.tape, hb.output, hb.size, fun k hk _ => hb.block k hk⟩ (by simp)
theorem keyL_eq (s u : ByteArray) : keyL s = keyL u ↔ s.toList = u.toList := by
  unfold keyL
  rw [ByteArray.toList_eq, ByteArray.toList_eq]
  simp
theorem lawStr : Keyed Tryd.prog 9 := string_keyed Tryd.underlying9
theorem zeroInt (w : World) : (zeroValue 3).run Tryd.prog w = .ok (.int .i64 0) w := by kernel_rfl

end Go.Proofs.YtnmpfpnldcgbaaaDoor
