/- The plain account of layer 8: how two trees are linked; codes in a slice in memory; the map of names. Nothing of the program is walked here. Plain facts on the account of layer 8: what comes of the functions of a tree, what an image keeps to, where a fault stands. Nothing of the program is walked here. The linker in memory; the contracts of its methods that only read: isLib, resolve, check, main. The contracts of the linker's resolve and main. The contract of the linker's add. The contract of the linker's check. The contract of link.Link on two whole trees: its image, or its fault, is the plain account's. Names in trees that were read: each function has one, each call and fork tells one; so what link.Link asks of its trees holds of all that Parse answers. Nothing of the program is walked here. The contract of lychgatelaw08.wakes in a world that holds the tables of lex: it returns true, and changes nothing that was in memory. From the walk of a law of three texts to what its row asks of a call. -/
import Derived.Test.YtnmpfpnldcgbaaaDoorP33
import Derived.Maps.OwnSet
import Derived.Maps.OwnOps
import Derived.Test.YtnmpfpnldcgbaaaDoorP34
import Derived.Deep.QuietTactic
import Derived.BigQuiet
import Derived.Deep.DeepCutAuto
import Derived.Test.YtnmpfpnldcgbaaaDoorP36
import Derived.Test.YtnmpfpnldcgbaaaDoorP23
import Derived.Test.YtnmpfpnldcgbaaaDoorP03
namespace Go.Proofs.YtnmpfpnldcgbaaaDoor
section
open Go.RowKit Go.Maps

/- The number of the first code of that name. -/
def findN : List Cod → ByteArray → Option Nat
  | [], _ => none
  | c :: cs, s => bif c.name.toList == s.toList then some 0 else (findN cs s).map (· + 1)
/- The functions of a tree, laid out behind those that are there; the place of the first one whose name is there. -/
def addL : List Cod → List T → List Cod × Option Nat
  | cs, [] => (cs, none)
  | cs, t :: ts => bif t.kind == 6 then (bif (findN cs t.text).isSome then (cs, some t.place) else addL (cs ++ [lowerI t]) ts) else addL cs ts
/- What keeps an instruction from being linked. -/
def resL (cs : List Cod) (libs : Nat) (i : Ins) : Int :=
  bif i.op == 12 || i.op == 13 then
    match findN cs i.y with
    | none => 31
    | some k => bif (decide (k < libs)) != (i.op == 12) then 31 else bif ((cs.getD k cod0).params.length : Int) != (i.args.length : Int) then 51 else 0
  else 0
/- The place and the error of the first instruction at fault. -/
def chkL (cs : List Cod) (libs : Nat) : List Ins → Nat × Int
  | [] => (0, 0)
  | i :: is => bif resL cs libs i != 0 then (i.place, resL cs libs i) else chkL cs libs is
/- Of all functions: the place, whether it is the client's, the error. -/
def allL (cs : List Cod) (libs : Nat) : Nat → List Cod → Nat × Bool × Int
  | _, [] => (0, false, 0)
  | k, c :: rest => bif (chkL cs libs c.list).2 != 0 then ((chkL cs libs c.list).1, decide (libs ≤ k), (chkL cs libs c.list).2) else allL cs libs (k + 1) rest
def mainS : ByteArray := ⟨#[109, 97, 105, 110]⟩
def mainL (cs : List Cod) (libs : Nat) : Option Nat :=
  match findN cs mainS with
  | none => none
  | some k => bif decide (k < libs) || decide (0 < (cs.getD k cod0).params.length) then none else some k
structure Img where
  codes : List Cod
  libs : Nat
  main : Nat
def img0 : Img := ⟨[], 0, 0⟩
def linkL (a b : T) : Img × Nat × Bool × Int :=
  match addL [] a.kids with
  | (_, some p) => (img0, p, false, 30)
  | (cs, none) =>
    match addL cs b.kids with
    | (_, some p) => (img0, p, true, 30)
    | (ds, none) =>
      bif (allL ds cs.length 0 ds).2.2 != 0 then (img0, allL ds cs.length 0 ds)
      else match mainL ds cs.length with
        | none => (img0, 0, true, 55)
        | some m => (⟨ds, cs.length, m⟩, 0, false, 0)

theorem findN_lt : ∀ {cs : List Cod} {s : ByteArray} {k : Nat}, findN cs s = some k → k < cs.length
  | [], s, k, h => by simp [findN] at h
  | c :: cs, s, k, h => by
    rw [findN] at h
    cases hq : (c.name.toList == s.toList) with
    | true => rw [hq] at h; simp at h; simp; omega
    | false =>
      rw [hq] at h
      simp only [cond_false, Option.map_eq_some_iff] at h
      obtain ⟨j, hj, rfl⟩ := h
      have := findN_lt hj
      simp; omega
theorem findN_snoc : ∀ (cs : List Cod) (c : Cod) (s : ByteArray), findN (cs ++ [c]) s = match findN cs s with | some k => some k | none => bif c.name.toList == s.toList then some cs.length else none
  | [], c, s => by
    rw [List.nil_append, findN, findN]
    cases (c.name.toList == s.toList) <;> rfl
  | a :: cs, c, s => by
    rw [List.cons_append, findN, findN, findN_snoc cs c s]
    cases (a.name.toList == s.toList) with
    | true => rfl
    | false =>
      cases findN cs s with
      | some k => rfl
      | none => cases (c.name.toList == s.toList) <;> rfl

/- Codes in memory. -/
def codRow : List Cod → List (Value × Value) → List Value
  | c :: cs, u :: us => codCells c u.1 u.2 ++ codRow cs us
  | _, _ => []
def AllCods (w : World) : List Cod → (Nat → Prop) → List (Value × Value) → Prop
  | [], _, us => us = []
  | c :: cs, S, us => ∃ u us', us = u :: us' ∧ CodAt w c S u.1 u.2 ∧ AllCods w cs S us'
def CodsAt (w : World) (cs : List Cod) (S : Nat → Prop) (v : Value) : Prop :=
  ∃ us, w.ownsRow 0 55 3 v cs.length (codRow cs us) ∧ (∀ g, v.ownBlock = some g → S g) ∧ AllCods w cs (fun b => S b ∧ v.ownBlock ≠ some b) us

theorem CodAt.keep {w w' : World} {c : Cod} {S S' : Nat → Prop} {p l : Value} (h : CodAt w c S p l) (hk : ∀ b, S b → b < w.heap.size → S' b ∧ w'.heap[b]? = w.heap[b]?) : CodAt w' c S' p l := ⟨h.1.keep hk, h.2.keep hk⟩
theorem CodAt.one {w : World} {c : Cod} {S : Nat → Prop} {p l : Value} (h : CodAt w c S p l) : ∀ u ∈ codCells c p l, u.oneCell' = true := by
  obtain ⟨_, _, rfl⟩ := h.1.slice
  obtain ⟨_, _, rfl⟩ := h.2.slice
  intro u hu
  simp only [codCells, List.mem_cons, List.not_mem_nil, or_false] at hu
  rcases hu with rfl | rfl | rfl <;> rfl
theorem AllCods.keep {w w' : World} : ∀ (cs : List Cod) {S S' : Nat → Prop} {us : List (Value × Value)}, AllCods w cs S us → (∀ b, S b → b < w.heap.size → S' b ∧ w'.heap[b]? = w.heap[b]?) → AllCods w' cs S' us
  | [], _, _, _, h, _ => h
  | c :: cs, S, S', us, h, hk => by
    obtain ⟨u, us', e, ha, hs⟩ := h
    exact ⟨u, us', e, ha.keep hk, AllCods.keep cs hs hk⟩
theorem CodsAt.keep {w w' : World} {cs : List Cod} {S S' : Nat → Prop} {v : Value} (h : CodsAt w cs S v) (hk : ∀ b, S b → b < w.heap.size → S' b ∧ w'.heap[b]? = w.heap[b]?) : CodsAt w' cs S' v := by
  obtain ⟨us, ho, hS, ha⟩ := h
  exact ⟨us, ownsRow_keep ho fun g hg => (hk g (hS g hg) (ho.lt g hg).2).2, fun g hg => (hk g (hS g hg) (ho.lt g hg).2).1, AllCods.keep cs ha fun b hb hl => ⟨⟨(hk b hb.1 hl).1, hb.2⟩, (hk b hb.1 hl).2⟩⟩
theorem CodsAt.below {w w' : World} {cs : List Cod} {S : Nat → Prop} {v : Value} (h : CodsAt w cs S v) (hk : Below w.heap.size w w') : CodsAt w' cs S v := h.keep fun b hb hl => ⟨hb, hk.block b hl⟩
theorem CodsAt.drew {w : World} {cs : List Cod} {S : Nat → Prop} {v : Value} (h : CodsAt w cs S v) : CodsAt w.drew cs S v := h.keep fun _ hb _ => ⟨hb, rfl⟩
theorem CodsAt.nil (w : World) (S : Nat → Prop) : CodsAt w [] S (.slice none 0 0) := ⟨[], World.ownsRow_nil _ _ _ _, (fun g h => by simp [Value.ownBlock] at h), rfl⟩
theorem AllCods.length {w : World} : ∀ {cs : List Cod} {S : Nat → Prop} {us : List (Value × Value)}, AllCods w cs S us → us.length = cs.length
  | [], _, _, h => by rw [show _ = [] from h]; rfl
  | c :: cs, _, _, h => by obtain ⟨u, us', rfl, _, h'⟩ := h; simp [AllCods.length h']
theorem AllCods.snoc {w : World} : ∀ {cs : List Cod} {c : Cod} {S : Nat → Prop} {us : List (Value × Value)} {u : Value × Value}, AllCods w cs S us → CodAt w c S u.1 u.2 → AllCods w (cs ++ [c]) S (us ++ [u])
  | [], c, _, us, u, h, h' => by rw [show us = [] from h]; exact ⟨u, [], rfl, h', rfl⟩
  | a :: cs, c, _, _, u, h, h' => by
    obtain ⟨v, us', rfl, ha, hs⟩ := h
    exact ⟨v, us' ++ [u], rfl, ha, AllCods.snoc hs h'⟩
theorem codRow_snoc : ∀ (cs : List Cod) (c : Cod) (us : List (Value × Value)) (u : Value × Value), us.length = cs.length → codRow (cs ++ [c]) (us ++ [u]) = codRow cs us ++ codCells c u.1 u.2
  | [], c, [], u, _ => by simp [codRow]
  | a :: cs, c, v :: us, u, h => by
    simp only [List.cons_append, codRow, List.append_assoc]
    rw [codRow_snoc cs c us u (by simpa using h)]
theorem codRow_get : ∀ (cs : List Cod) (us : List (Value × Value)) (k : Nat) (c : Cod) (u : Value × Value) (j : Nat), cs[k]? = some c → us[k]? = some u → j < 3 → (codRow cs us)[k * 3 + j]? = (codCells c u.1 u.2)[j]?
  | [], _, k, t, u, j, h, _, _ => by simp at h
  | _ :: _, [], k, t, u, j, _, h, _ => by simp at h
  | a :: ks, b :: vs, 0, t, u, j, h, h', hj => by
    obtain rfl : a = t := by simpa using h
    obtain rfl : b = u := by simpa using h'
    rw [codRow, Nat.zero_mul, Nat.zero_add, List.getElem?_append_left (by simpa [codCells] using hj)]
  | a :: ks, b :: vs, k + 1, t, u, j, h, h', hj => by
    rw [codRow, List.getElem?_append_right (by simp [codCells]; omega)]
    have e : (k + 1) * 3 + j - (codCells a b.1 b.2).length = k * 3 + j := by simp [codCells]; omega
    rw [e]
    exact codRow_get ks vs k t u j (by simpa using h) (by simpa using h') hj
theorem AllCods.get {w : World} : ∀ {cs : List Cod} {S : Nat → Prop} {us : List (Value × Value)}, AllCods w cs S us → ∀ {k : Nat} {c : Cod}, cs[k]? = some c → ∃ u, us[k]? = some u ∧ CodAt w c S u.1 u.2
  | [], _, _, _, k, t, h => by simp at h
  | a :: ts, S, vs, h, 0, t, hk => by
    obtain ⟨v, vs', rfl, ht, _⟩ := h
    obtain rfl : a = t := by simpa using hk
    exact ⟨v, rfl, ht⟩
  | a :: ts, S, vs, h, k + 1, t, hk => by
    obtain ⟨v, vs', rfl, _, hts⟩ := h
    obtain ⟨u, hu, ht⟩ := AllCods.get hts (k := k) (c := t) (by simpa using hk)
    exact ⟨u, by simpa using hu, ht⟩
theorem CodsAt.slice {w : World} {cs : List Cod} {S : Nat → Prop} {v : Value} (h : CodsAt w cs S v) : ∃ a c, v = .slice a cs.length c := by
  obtain ⟨_, ho, _⟩ := h
  rcases ho.2 with ⟨rfl, h0⟩ | ⟨g, cap, _, rfl, _⟩
  · exact ⟨_, _, by rw [h0]⟩
  · exact ⟨_, _, rfl⟩
/- A code in the slice. -/
theorem CodsAt.form {w : World} {cs : List Cod} {S : Nat → Prop} {v : Value} (h : CodsAt w cs S v) : (v = .slice none 0 0 ∧ cs = []) ∨ ∃ g cap, v = .slice (some ⟨g, 0, none⟩) cs.length cap ∧ (S g ∧ g < w.heap.size) ∧ cs.length ≤ cap ∧ cap ≤ maxLen ∧
    ∀ k c, cs[k]? = some c → ∃ p l, w.rangeAt g (k * 3) (codCells c p l) ∧ CodAt w c S p l := by
  obtain ⟨us, ho, hS, hts⟩ := h
  have ho' := ho
  rcases ho.2 with ⟨rfl, h0⟩ | ⟨g, cap, cur, rfl, hb, hg, hnc, hcm, hcs, htake⟩
  · exact .inl ⟨rfl, List.eq_nil_of_length_eq_zero h0⟩
  · refine .inr ⟨g, cap, rfl, ⟨hS g rfl, (Array.getElem?_eq_some_iff.1 hg).1⟩, hnc, hcm, fun k c hk => ?_⟩
    obtain ⟨u, hu, ht⟩ := hts.get hk
    refine ⟨u.1, u.2, fun j x hj => ?_, ht.keep fun b hb hl => ⟨hb.1, rfl⟩⟩
    have hj5 : j < 3 := by have := (List.getElem?_eq_some_iff.1 hj).1; simpa [codCells] using this
    have hlt : k < cs.length := (List.getElem?_eq_some_iff.1 hk).1
    rw [ho'.cellAt (k * 3 + j) (by omega), codRow_get cs us k c u j hk hu hj5]
    exact hj
theorem codRow_length {w : World} : ∀ {cs : List Cod} {S : Nat → Prop} {us : List (Value × Value)}, AllCods w cs S us → (codRow cs us).length = cs.length * 3
  | [], _, _, _ => by simp [codRow]
  | c :: cs, _, _, h => by
    obtain ⟨u, us', rfl, _, hs⟩ := h
    simp only [codRow, List.length_append, codRow_length hs, List.length_cons]
    show 3 + _ = _
    omega
/- append of one code that lies in a new block. -/
theorem wp_append_cod {P : Program} {o : Oper} {a : Act} {w : World} {K : Act → World → Prop} {Q : Exit → Act → World → Prop} (s x : Operand) {t : TypeId} (ho : o.op = .call { callee := .builtin .append, args := #[s, x], argTypes := #[t, t] })
    {i : TypeInfo} {z : Value} (I : RowInfo P t 55 3 64 i z) {cs : List Cod} {c : Cod} {S : Nat → Prop} {v p l : Value} (hs : a.eval s = v) (hk : CodsAt w cs S v) (hS : S w.heap.size) {b cc : Nat} (hx : a.eval x = .slice (some ⟨b, 0, none⟩) 1 cc)
    (hg : Blk w b (codCells c p l) 55) (hc : CodAt w c (fun b => S b ∧ v.ownBlock ≠ some b) p l) (hb : cs.length + 1 ≤ 2000000)
    (h : ∀ v' w', CodsAt w' (cs ++ [c]) S v' → w.grownBy w' v.ownBlock → (v'.ownBlock = v.ownBlock ∨ v'.ownBlock = some w.heap.size) → K (a.put o.dst v') w') : o.wp P a w K Q := by
  obtain ⟨us, hown, hSv, hks⟩ := hk
  have hnews : ∀ j y, (codCells c p l)[j]? = some y → w.cell? ((⟨b, 0, none⟩ : Addr).add j) = some y := fun j y hj => by rw [Addr.add_mid, Nat.zero_add, hg.cell j]; exact hj
  have hbb : (cs.length + 1) * 64 ≤ 140737488355328 := by omega
  obtain ⟨v', w', hr, ho', hg', _⟩ := run_append_own (P := P) w 0 t o.type 55 i z 3 64 I.ht I.hi I.hz I.size I.bytes I.zs (by decide) v cs.length (codRow cs us) hown ⟨b, 0, none⟩ 1 cc (codCells c p l) rfl hnews hc.one (by unfold maxLen; omega) hbb (Nat.zero_le _)
  have hbk := append_blockN (ty := o.type) I.ht I.hi I.hz I.size I.bytes hown (by omega) rfl hnews hc.one (by unfold maxLen; omega) hbb hr
  unfold Oper.wp execOp
  simp only [ho, resolve, invoke, builtin, Sem.run_bind, Sem.run_pure, Result.andThen_ok, List.map_toArray, List.map_cons, List.map_nil, hs, hx]
  rw [hr]
  have keep : ∀ b, (S b ∧ v.ownBlock ≠ some b) → b < w.heap.size → (S b ∧ v'.ownBlock ≠ some b) ∧ w'.heap[b]? = w.heap[b]? := fun b hb hl => by
    refine ⟨⟨hb.1, fun h => ?_⟩, hg'.block b hl (Ne.symm hb.2)⟩
    rcases hbk with h' | h'
    · exact hb.2 (h' ▸ h)
    · rw [h'] at h; cases h; exact absurd hl (Nat.lt_irrefl _)
  refine h v' w' ⟨us ++ [(p, l)], ?_, ?_, ?_⟩ hg' hbk
  · rw [codRow_snoc _ _ _ _ hks.length, List.length_append]
    exact ho'
  · intro g hg2
    rcases hbk with h | h
    · exact hSv g (h ▸ hg2)
    · rw [h] at hg2; cases hg2; exact hS
  · exact AllCods.snoc (AllCods.keep _ hks keep) (hc.keep keep)
theorem Tryd.codeInfo : ∃ i z, RowInfo Tryd.prog 58 55 3 64 i z := by
  have h : (Tryd.prog.info? 55).map (fun i => (i.zero, i.size, i.bytes)) = some (some (.agg #[.string ⟨#[]⟩, .slice none 0 0, .slice none 0 0]), 3, 64) := by kernel_rfl
  obtain ⟨i0, hi, hz0, hz1, hz2⟩ := info_parts h
  exact ⟨i0, _, Tryd.underlying58, hi, hz0, hz1, hz2, rfl⟩

/- The map of names: which codes there are, by their first number. -/
def keyL (s : ByteArray) : Lit := .string s.data.toList
def MapAt (w : World) (b : Nat) (cs : List Cod) : Prop :=
  ∃ (n : Nat) (D : DataW Unit), w.ownsMap Tryd.prog 9 (plainElem Tryd.prog 3) b n D ∧ n ≤ cs.length ∧ IsMap D ∧ ∀ s : ByteArray, Maps.has D (keyL s) = (findN cs s).isSome ∧ ∀ k, findN cs s = some k → D.atKey (keyL s) (.lit (.int .i64 0)) = .lit (.int .i64 k)
theorem MapAt.kept {w w' : World} {b : Nat} {cs : List Cod} {row : Option Nat} (h : MapAt w b cs) (hg : w.grownBy w' row) (hne : some b ≠ row) : MapAt w' b cs := by
  obtain ⟨n, D, h1, h2, h3, h4⟩ := h
  exact ⟨n, D, h1.kept hg hne, h2, h3, h4⟩
theorem MapAt.lt {w : World} {b : Nat} {cs : List Cod} (h : MapAt w b cs) : b < w.heap.size := by
  obtain ⟨n, D, h1, _⟩ := h
  exact h1.lt
theorem MapAt.below {w w' : World} {b : Nat} {cs : List Cod} (h : MapAt w b cs) (hb : Below w.heap.size w w') : MapAt w' b cs :=
  h.kept (row := none) ⟨hb.os, hb.tape, hb.output, hb.size, fun k hk _ => hb.block k hk⟩ (by simp)
theorem keyL_eq (s u : ByteArray) : keyL s = keyL u ↔ s.toList = u.toList := by
  unfold keyL
  rw [ByteArray.toList_eq, ByteArray.toList_eq]
  simp
theorem lawStr : Keyed Tryd.prog 9 := string_keyed Tryd.underlying9
theorem zeroInt (w : World) : (zeroValue 3).run Tryd.prog w = .ok (.int .i64 0) w := by kernel_rfl
end

section
open Go.RowKit

def fnsL (ts : List T) : List T := ts.filter fun t => t.kind == 6
def Uniq (cs : List Cod) : Prop := ∀ k c, cs[k]? = some c → findN cs c.name = some k
theorem Uniq.nil : Uniq [] := fun k c h => by simp at h
theorem Uniq.snoc {cs : List Cod} {c : Cod} (h : Uniq cs) (hn : findN cs c.name = none) : Uniq (cs ++ [c]) := by
  intro k d hk
  rw [findN_snoc]
  rcases Nat.lt_or_ge k cs.length with hl | hl
  · rw [List.getElem?_append_left hl] at hk
    rw [h k d hk]
  · rw [List.getElem?_append_right hl] at hk
    have h0 : k - cs.length = 0 := by
      have := (List.getElem?_eq_some_iff.1 hk).1
      simp at this; omega
    rw [h0] at hk
    obtain rfl : c = d := by simpa using hk
    rw [hn]
    have : (c.name.toList == c.name.toList) = true := by simp
    rw [this]
    show some cs.length = some k
    congr 1
    omega
theorem lowerI_name {t : T} (h : t.kind = 6) : (lowerI t).name = t.text := by
  unfold lowerI
  have : (t.kind == 6) = true := by simpa using h
  rw [this]; rfl
theorem addL_cons (cs : List Cod) (t : T) (ts : List T) : addL cs (t :: ts) = bif t.kind == 6 then (bif (findN cs t.text).isSome then (cs, some t.place) else addL (cs ++ [lowerI t]) ts) else addL cs ts := by rw [addL]
theorem addL_none : ∀ (ts : List T) (cs ds : List Cod), addL cs ts = (ds, none) → ds = cs ++ (fnsL ts).map lowerI
  | [], cs, ds, h => by
    rw [addL] at h
    cases h
    simp [fnsL]
  | t :: ts, cs, ds, h => by
    rw [addL_cons] at h
    cases h6 : (t.kind == 6) with
    | false =>
      rw [h6] at h
      have := addL_none ts cs ds h
      rw [this]
      simp [fnsL, List.filter, h6]
    | true =>
      rw [h6] at h
      cases hf : (findN cs t.text).isSome with
      | true => rw [hf] at h; cases h
      | false =>
        rw [hf] at h
        have := addL_none ts _ ds h
        rw [this]
        simp [fnsL, List.filter, h6]
theorem addL_some : ∀ (ts : List T) (cs ds : List Cod) (p : Nat), addL cs ts = (ds, some p) → ∃ t, t ∈ ts ∧ t.kind = 6 ∧ t.place = p
  | [], cs, ds, p, h => by rw [addL] at h; cases h
  | t :: ts, cs, ds, p, h => by
    rw [addL_cons] at h
    cases h6 : (t.kind == 6) with
    | false =>
      rw [h6] at h
      obtain ⟨u, hu, h1⟩ := addL_some ts cs ds p h
      exact ⟨u, by simp [hu], h1⟩
    | true =>
      rw [h6] at h
      cases hf : (findN cs t.text).isSome with
      | true =>
        rw [hf] at h
        cases h
        exact ⟨t, by simp, by simpa using h6, rfl⟩
      | false =>
        rw [hf] at h
        obtain ⟨u, hu, h1⟩ := addL_some ts _ ds p h
        exact ⟨u, by simp [hu], h1⟩
theorem addL_uniq : ∀ (ts : List T) (cs : List Cod), Uniq cs → Uniq (addL cs ts).1
  | [], cs, h => by rw [addL]; exact h
  | t :: ts, cs, h => by
    rw [addL_cons]
    cases h6 : (t.kind == 6) with
    | false => exact addL_uniq ts cs h
    | true =>
      cases hf : (findN cs t.text).isSome with
      | true => exact h
      | false =>
        refine addL_uniq ts _ (h.snoc ?_)
        rw [lowerI_name (by simpa using h6)]
        simpa using hf
theorem addL_length : ∀ (ts : List T) (cs : List Cod), (addL cs ts).1.length ≤ cs.length + ts.length
  | [], cs => by rw [addL]; simp
  | t :: ts, cs => by
    rw [addL_cons]
    have h1 := addL_length ts cs
    have h2 := addL_length ts (cs ++ [lowerI t])
    cases h6 : (t.kind == 6) with
    | false => simp only [cond_false, List.length_cons]; omega
    | true =>
      cases hf : (findN cs t.text).isSome with
      | true => simp only [cond_true]; omega
      | false => simp only [cond_true, cond_false, List.length_cons] at *; simp at h2; omega

/- What holds of an instruction that is linked. -/
theorem resL_zero {cs : List Cod} {libs : Nat} {i : Ins} (h : resL cs libs i = 0) (ho : i.op = 12 ∨ i.op = 13) : ∃ k c, findN cs i.y = some k ∧ cs[k]? = some c ∧ decide (k < libs) = (i.op == 12) ∧ c.params.length = i.args.length := by
  unfold resL at h
  have h1 : (i.op == 12 || i.op == 13) = true := by rcases ho with e | e <;> rw [e] <;> rfl
  rw [h1] at h
  cases hf : findN cs i.y with
  | none => rw [hf] at h; exact absurd (show (31 : Int) = 0 from h) (by decide)
  | some k =>
    rw [hf] at h
    have hl := findN_lt hf
    refine ⟨k, cs[k], rfl, List.getElem?_eq_getElem hl, ?_⟩
    simp only [cond_true] at h
    cases hq : (decide (k < libs) != (i.op == 12)) with
    | true => rw [hq] at h; exact absurd (show (31 : Int) = 0 from h) (by decide)
    | false =>
      rw [hq] at h
      simp only [cond_false] at h
      have hg : cs.getD k cod0 = cs[k] := by simp [List.getD, List.getElem?_eq_getElem hl]
      rw [hg] at h
      cases hr : ((cs[k].params.length : Int) != (i.args.length : Int)) with
      | true => rw [hr] at h; exact absurd (show (51 : Int) = 0 from h) (by decide)
      | false =>
        refine ⟨by simpa using hq, ?_⟩
        have h3 : (cs[k].params.length : Int) = (i.args.length : Int) := by simpa using hr
        exact Int.ofNat.inj h3
theorem resL_bad {cs : List Cod} {libs : Nat} {i : Ins} (h : resL cs libs i ≠ 0) : (i.op = 12 ∨ i.op = 13) ∧ (resL cs libs i = 31 ∨ resL cs libs i = 51) := by
  unfold resL at *
  cases h1 : (i.op == 12 || i.op == 13) with
  | false => rw [h1] at h; exact absurd rfl h
  | true =>
    refine ⟨by simpa using h1, ?_⟩
    rw [h1] at h
    cases hf : findN cs i.y with
    | none => exact .inl rfl
    | some k =>
      rw [hf] at h
      simp only [cond_true] at h ⊢
      cases hq : (decide (k < libs) != (i.op == 12)) with
      | true => exact .inl rfl
      | false =>
        rw [hq] at h
        simp only [cond_false] at h ⊢
        cases hr : (((cs.getD k cod0).params.length : Int) != (i.args.length : Int)) with
        | true => exact .inr rfl
        | false => rw [hr] at h; exact absurd rfl h
theorem chkL_ok : ∀ {cs : List Cod} {libs : Nat} (is : List Ins), (chkL cs libs is).2 = 0 → ∀ i ∈ is, resL cs libs i = 0
  | _, _, [], _, i, h => by simp at h
  | cs, libs, a :: is, h, i, hi => by
    rw [chkL] at h
    cases hq : (resL cs libs a != 0) with
    | true =>
      rw [hq] at h
      simp at hq
      exact absurd h hq
    | false =>
      rw [hq] at h
      rcases List.mem_cons.1 hi with rfl | hi
      · simpa using hq
      · exact chkL_ok is h i hi
theorem chkL_bad : ∀ {cs : List Cod} {libs : Nat} (is : List Ins), (chkL cs libs is).2 ≠ 0 → ∃ i, i ∈ is ∧ i.place = (chkL cs libs is).1 ∧ (i.op = 12 ∨ i.op = 13) ∧ ((chkL cs libs is).2 = 31 ∨ (chkL cs libs is).2 = 51)
  | _, _, [], h => absurd rfl h
  | cs, libs, a :: is, h => by
    rw [chkL] at h ⊢
    cases hq : (resL cs libs a != 0) with
    | true =>
      have hb := resL_bad (cs := cs) (libs := libs) (i := a) (by simpa using hq)
      exact ⟨a, by simp, rfl, hb.1, hb.2⟩
    | false =>
      rw [hq] at h
      obtain ⟨i, hi, h1⟩ := chkL_bad is h
      exact ⟨i, by simp [hi], h1⟩
theorem allL_cons (cs : List Cod) (libs k : Nat) (c : Cod) (rest : List Cod) : allL cs libs k (c :: rest) = bif (chkL cs libs c.list).2 != 0 then ((chkL cs libs c.list).1, decide (libs ≤ k), (chkL cs libs c.list).2) else allL cs libs (k + 1) rest := by rw [allL]
theorem allL_ok : ∀ {cs : List Cod} {libs : Nat} (rest : List Cod) (k : Nat), (allL cs libs k rest).2.2 = 0 → ∀ c ∈ rest, ∀ i ∈ c.list, resL cs libs i = 0
  | _, _, [], _, _, c, h => by simp at h
  | cs, libs, a :: rest, k, h, c, hc => by
    rw [allL_cons] at h
    cases hq : ((chkL cs libs a.list).2 != 0) with
    | true =>
      rw [hq] at h
      simp at hq
      exact absurd h hq
    | false =>
      rw [hq] at h
      rcases List.mem_cons.1 hc with rfl | hc
      · exact chkL_ok _ (by simpa using hq)
      · exact allL_ok rest _ h c hc
theorem allL_bad : ∀ {cs : List Cod} {libs : Nat} (rest : List Cod) (k : Nat), (allL cs libs k rest).2.2 ≠ 0 → ∃ j c, rest[j]? = some c ∧ (allL cs libs k rest).2.1 = decide (libs ≤ k + j) ∧ (∃ i, i ∈ c.list ∧ i.place = (allL cs libs k rest).1 ∧ (i.op = 12 ∨ i.op = 13)) ∧ ((allL cs libs k rest).2.2 = 31 ∨ (allL cs libs k rest).2.2 = 51)
  | _, _, [], _, h => absurd rfl h
  | cs, libs, a :: rest, k, h => by
    rw [allL_cons] at h ⊢
    cases hq : ((chkL cs libs a.list).2 != 0) with
    | true =>
      obtain ⟨i, hi, h1, h2, h3⟩ := chkL_bad (cs := cs) (libs := libs) a.list (by simpa using hq)
      exact ⟨0, a, rfl, rfl, ⟨i, hi, h1, h2⟩, h3⟩
    | false =>
      rw [hq] at h
      obtain ⟨j, c, hj, h1, h2⟩ := allL_bad rest (k + 1) h
      refine ⟨j + 1, c, by simpa using hj, ?_, h2⟩
      simp only [cond_false]
      rw [h1, show k + 1 + j = k + (j + 1) by omega]

/- Does a function or a statement of the tree stand at this place? -/
def ownB (p : Nat) (k : Int) (q : Nat) : Bool := (q == p) && (k == 6 || (decide (10 ≤ k) && decide (k ≤ 20)))
mutual
def T.standsB (p : Nat) : T → Bool
  | .mk k _ _ q ks => ownB p k q || standsBs p ks
def standsBs (p : Nat) : List T → Bool
  | [] => false
  | t :: ts => t.standsB p || standsBs p ts
end
theorem stands_eq (p : Nat) (t : T) : t.standsB p = (ownB p t.kind t.place || standsBs p t.kids) := by cases t; rw [T.standsB]; rfl
theorem standsBs_nil (p : Nat) : standsBs p [] = false := by rw [standsBs]
theorem standsBs_cons (p : Nat) (t : T) (ts : List T) : standsBs p (t :: ts) = (t.standsB p || standsBs p ts) := by rw [standsBs]
theorem standsBs_mem {p : Nat} : ∀ {ts : List T} {t : T}, t ∈ ts → t.standsB p = true → standsBs p ts = true
  | a :: ts, t, hm, h => by
    rw [standsBs_cons]
    rcases List.mem_cons.1 hm with rfl | hm
    · rw [h]; rfl
    · rw [standsBs_mem hm h]; simp
theorem stands_kid {p : Nat} {t u : T} (h : u ∈ t.kids) (hu : u.standsB p = true) : t.standsB p = true := by
  rw [stands_eq, standsBs_mem h hu]; simp
theorem stands_in {p : Nat} {t : T} (h : standsBs p t.kids = true) : t.standsB p = true := by rw [stands_eq, h]; simp
theorem stands_own {t : T} (h : t.kind = 6 ∨ (10 ≤ t.kind ∧ t.kind ≤ 20)) : t.standsB t.place = true := by
  rw [stands_eq]
  have : ownB t.place t.kind t.place = true := by
    unfold ownB
    simp
    omega
  rw [this]; rfl
theorem blockI_stands : ∀ (n : Nat) (ks : List T), sizes ks ≤ n → KindsAre isStmtK ks → wholes ks → ∀ c, ∀ i ∈ blockI n c ks, standsBs i.place ks = true
  | 0, ks, _, _, _, c, i, hi => by simp [blockI] at hi
  | n + 1, ks, hn, hk, hw, c, i, hi => by
    have hi' : i ∈ stmtsI (blockI n) c ks := hi
    clear hi
    induction ks generalizing c with
    | nil => simp [stmtsI] at hi'
    | cons t ts ih =>
      rw [sizes_cons] at hn
      have hts : t.size = 1 + sizes t.kids := by cases t; rw [size_mk]; rfl
      have hwt := wholes_cons.1 hw
      have hkt : isStmtK t.kind := hk t (by simp)
      rw [stmtsI, List.mem_append] at hi'
      rw [standsBs_cons]
      rcases hi' with hi | hi
      · have : t.standsB i.place = true := by
          have own : i.place = t.place → t.standsB i.place = true := fun e => by rw [e]; exact stands_own (.inr hkt)
          rcases stmt_form hwt.1 hkt with ⟨h15, a, b, x, y, he, hab, hxy, hwab, hx, hy⟩ | ⟨h16, a, b, x, he, hab, hx9, hwab, hx⟩ | ⟨h15, h16, h0⟩
          · have s1 : sizes t.kids = a.size + (b.size + (x.size + (y.size + 0))) := by rw [he, sizes_cons, sizes_cons, sizes_cons, sizes_cons, sizes_nil]
            have s2 : x.size = 1 + sizes x.kids := by cases x; rw [size_mk]; rfl
            have s3 : y.size = 1 + sizes y.kids := by cases y; rw [size_mk]; rfl
            have hbx := block_kids hx hxy.1
            have hby := block_kids hy hxy.2
            rw [stmtI_if _ _ h15 he] at hi
            simp only [List.mem_cons, List.mem_append] at hi
            rcases hi with rfl | hi | rfl | hi
            · exact own rfl
            · exact stands_kid (u := x) (by rw [he]; simp) (stands_in (blockI_stands n x.kids (by omega) hbx.1 hbx.2 _ i hi))
            · exact own rfl
            · exact stands_kid (u := y) (by rw [he]; simp) (stands_in (blockI_stands n y.kids (by omega) hby.1 hby.2 _ i hi))
          · have s1 : sizes t.kids = a.size + (b.size + (x.size + 0)) := by rw [he, sizes_cons, sizes_cons, sizes_cons, sizes_nil]
            have s2 : x.size = 1 + sizes x.kids := by cases x; rw [size_mk]; rfl
            have hbx := block_kids hx hx9
            rw [stmtI_while _ _ h16 he] at hi
            simp only [List.mem_cons, List.mem_append, List.not_mem_nil, or_false] at hi
            rcases hi with rfl | hi | rfl
            · exact own rfl
            · exact stands_kid (u := x) (by rw [he]; simp) (stands_in (blockI_stands n x.kids (by omega) hbx.1 hbx.2 _ i hi))
            · exact own rfl
          · obtain ⟨j, hj, _, _, _, hp⟩ := stmtI_one (blockI n) c hkt h15 h16
            rw [hj] at hi
            obtain rfl : i = j := by simpa using hi
            exact own hp
        rw [this]; rfl
      · rw [ih (by omega) (fun u hu => hk u (by simp [hu])) hwt.2 _ hi]; simp
theorem fn_stands {t : T} (hw : t.whole) (h6 : t.kind = 6) (hs : t.size ≤ 5000) {i : Ins} (hi : i ∈ (lowerI t).list) (ho : i.op = 12 ∨ i.op = 13) : t.standsB i.place = true := by
  obtain ⟨xs, r, b, he, hx, hwx, hr, hb, hsz, hl⟩ := fn_form hw h6
  have hts : t.size = 1 + sizes t.kids := by cases t; rw [size_mk]; rfl
  have hbk := block_kids hb.2 hb.1
  rw [hl] at hi
  have hi' : i ∈ blockI 5000 0 b.kids ++ [retI b] := hi
  rw [List.mem_append] at hi'
  rcases hi' with hi | hi
  · exact stands_kid (u := b) (by rw [he]; simp) (stands_in (blockI_stands 5000 b.kids (by omega) hbk.1 hbk.2 _ i hi))
  · obtain rfl : i = retI b := by simpa using hi
    exact absurd ho (by show ¬ ((14 : Int) = 12 ∨ (14 : Int) = 13); omega)

/- What linking comes to. -/
structure Linked (a b : T) (m : Img) : Prop where
  codes : m.codes = (fnsL a.kids).map lowerI ++ (fnsL b.kids).map lowerI
  libs : m.libs = (fnsL a.kids).length
  uniq : Uniq m.codes
  ok : ∀ c ∈ m.codes, ∀ i ∈ c.list, resL m.codes m.libs i = 0
  main : findN m.codes mainS = some m.main
  lo : m.libs ≤ m.main
  none : (m.codes.getD m.main cod0).params.length = 0
theorem linkL_form (a b : T) : (∃ p is e, linkL a b = (img0, p, is, e) ∧ ((e = 55 ∧ p = 0 ∧ is = true) ∨ ((e = 30 ∨ e = 31 ∨ e = 51) ∧ (a.whole → b.whole → a.size ≤ 5000 → b.size ≤ 5000 → (bif is then b else a).standsB p = true)))) ∨ (∃ m, linkL a b = (m, 0, false, 0) ∧ Linked a b m) := by
  unfold linkL
  cases h1 : addL [] a.kids with
  | mk cs r1 =>
    have hu1 := addL_uniq a.kids [] Uniq.nil
    rw [h1] at hu1
    cases r1 with
    | some p =>
      refine .inl ⟨p, false, 30, rfl, .inr ⟨.inl rfl, fun _ _ _ _ => ?_⟩⟩
      obtain ⟨t, ht, hk, hp⟩ := addL_some _ _ _ _ h1
      exact stands_kid ht (by rw [← hp]; exact stands_own (.inl hk))
    | none =>
      have hc := addL_none _ _ _ h1
      simp only
      cases h2 : addL cs b.kids with
      | mk ds r2 =>
        have hu2 := addL_uniq b.kids cs hu1
        rw [h2] at hu2
        cases r2 with
        | some p =>
          refine .inl ⟨p, true, 30, rfl, .inr ⟨.inl rfl, fun _ _ _ _ => ?_⟩⟩
          obtain ⟨t, ht, hk, hp⟩ := addL_some _ _ _ _ h2
          exact stands_kid ht (by rw [← hp]; exact stands_own (.inl hk))
        | none =>
          have hd := addL_none _ _ _ h2
          simp only
          have hlen : cs.length = (fnsL a.kids).length := by rw [hc]; simp
          cases hq : ((allL ds cs.length 0 ds).2.2 != 0) with
          | true =>
            obtain ⟨j, c, hj, h3, ⟨i, hi, hp, ho⟩, h5⟩ := allL_bad (cs := ds) (libs := cs.length) ds 0 (by simpa using hq)
            refine .inl ⟨_, _, _, rfl, .inr ⟨.inr h5, fun hwa hwb hsa hsb => ?_⟩⟩
            rw [h3, ← hp, Nat.zero_add]
            have hsz : ∀ (x t : T), t ∈ x.kids → t.size ≤ x.size := fun x t ht => by
              obtain ⟨q, hq⟩ := List.mem_iff_getElem?.1 ht
              have h1 := sizes_mem hq
              have h2 : x.size = 1 + sizes x.kids := by cases x; rw [size_mk]; rfl
              omega
            rcases Nat.lt_or_ge j cs.length with hl | hl
            · have e : decide (cs.length ≤ j) = false := by simp; omega
              rw [e]
              rw [hd, List.getElem?_append_left hl, hc, List.nil_append, List.getElem?_map] at hj
              obtain ⟨t, ht, rfl⟩ := Option.map_eq_some_iff.1 hj
              have hm := List.mem_filter.1 (List.mem_of_getElem? ht)
              exact stands_kid hm.1 (fn_stands (wholes_mem (whole_eq.1 hwa).2 hm.1) (by simpa using hm.2) (Nat.le_trans (hsz a t hm.1) hsa) hi ho)
            · have e : decide (cs.length ≤ j) = true := by simp; omega
              rw [e]
              rw [hd, List.getElem?_append_right hl, List.getElem?_map] at hj
              obtain ⟨t, ht, rfl⟩ := Option.map_eq_some_iff.1 hj
              have hm := List.mem_filter.1 (List.mem_of_getElem? ht)
              exact stands_kid hm.1 (fn_stands (wholes_mem (whole_eq.1 hwb).2 hm.1) (by simpa using hm.2) (Nat.le_trans (hsz b t hm.1) hsb) hi ho)
          | false =>
            have hok := allL_ok (cs := ds) (libs := cs.length) ds 0 (by simpa using hq)
            cases hm : mainL ds cs.length with
            | none => exact .inl ⟨0, true, 55, rfl, .inl ⟨rfl, rfl, rfl⟩⟩
            | some k =>
              unfold mainL at hm
              cases hf : findN ds mainS with
              | none => rw [hf] at hm; cases hm
              | some q =>
                rw [hf] at hm
                simp only at hm
                cases hx : (decide (q < cs.length) || decide (0 < (ds.getD q cod0).params.length)) with
                | true => rw [hx] at hm; cases hm
                | false =>
                  rw [hx] at hm
                  simp only [cond_false, Option.some.injEq] at hm
                  subst hm
                  simp only [Bool.or_eq_false_iff, decide_eq_false_iff_not] at hx
                  exact .inr ⟨_, rfl, by rw [hd, hc]; simp, hlen, hu2, hok, hf, by show cs.length ≤ q; omega, by show (ds.getD q cod0).params.length = 0; omega⟩
end

section
open Go.RowKit Go.Maps

/- A look-up of a name. -/
theorem MapAt.look {w : World} {M : Nat} {cs : List Cod} (h : MapAt w M cs) {s : ByteArray} (hs : s.size ≤ maxLen) :
    ∃ c : Int, (∀ k, findN cs s = some k → c = (k : Int)) ∧ ∀ W : World, W.heap[M]? = w.heap[M]? → (Instr.lookup 66 (.map (some M)) (.string s) true).run Tryd.prog W = .ok (.tuple #[.int .i64 c, .bool (findN cs s).isSome]) W := by
  obtain ⟨n, D, ho, hn, hI, hD⟩ := h
  have hkey : keyOf Tryd.prog 9 (.string s) = some (keyL s) := WideMaps.keyOf_string_mk Tryd.underlying9 hs
  have one : ∀ W : World, W.heap[M]? = w.heap[M]? → ∃ c : Int, D.atKey (keyL s) (.lit (.int .i64 0)) = .lit (.int .i64 c) ∧ (Instr.lookup 66 (.map (some M)) (.string s) true).run Tryd.prog W = .ok (.tuple #[.int .i64 c, .bool (findN cs s).isSome]) W := fun W hW => by
    have hoW : W.ownsMap Tryd.prog 9 (plainElem Tryd.prog 3) M n D := by
      obtain ⟨es, clock, hb, hr⟩ := ho
      exact ⟨es, clock, hW.trans hb, hr⟩
    obtain ⟨v, ps, hrun, hv⟩ := hoW.look_ok lawStr Tryd.underlying66 (zeroInt W) (plainElem_int Tryd.underlying3 (by decide)) hkey
    obtain ⟨c, rfl, hc, _⟩ := plainElem_int_inv Tryd.underlying3 hv
    refine ⟨c, congrArg Prod.fst hc, ?_⟩
    rw [hrun, (hD s).1]
  obtain ⟨c, hc, _⟩ := one w rfl
  refine ⟨c, fun k hk => ?_, fun W hW => ?_⟩
  · have h2 := (hD s).2 k hk
    rw [hc] at h2
    simpa using h2
  · obtain ⟨c', hc', hr⟩ := one W hW
    rw [hc] at hc'
    have e : c' = c := by simpa using hc'.symm
    rw [← e]
    exact hr
theorem MapAt.same {w w' : World} {M : Nat} {cs : List Cod} (h : MapAt w M cs) (e : w'.heap[M]? = w.heap[M]?) : MapAt w' M cs := by
  obtain ⟨n, D, ⟨es, clock, hb, hr⟩, h2⟩ := h
  exact ⟨n, D, ⟨es, clock, e.trans hb, hr⟩, h2⟩
/- A name more. -/
theorem MapAt.snoc {w1 : World} {M n : Nat} {cs : List Cod} {c : Cod} {D : DataW Unit} (hn : n ≤ cs.length) (hI : IsMap D) (hD : ∀ s : ByteArray, Maps.has D (keyL s) = (findN cs s).isSome ∧ ∀ k, findN cs s = some k → D.atKey (keyL s) (.lit (.int .i64 0)) = .lit (.int .i64 k))
    (ho : w1.ownsMap Tryd.prog 9 (plainElem Tryd.prog 3) M (n + 1) (D.put (keyL c.name) (.lit (.int .i64 (cs.length : Nat))))) (hf : findN cs c.name = none) : MapAt w1 M (cs ++ [c]) := by
  refine ⟨n + 1, _, ho, by simp; omega, hI.put _ _, fun s => ?_⟩
  rw [findN_snoc]
  by_cases he : c.name.toList = s.toList
  · have hk : keyL s = keyL c.name := (keyL_eq s c.name).2 he.symm
    have hs : findN cs s = none := by
      have : ∀ l : List Cod, findN l s = findN l c.name := by
        intro l
        induction l with
        | nil => rfl
        | cons a l ih => rw [findN, findN, ih, he]
      rw [this]; exact hf
    have hb : (c.name.toList == s.toList) = true := by simpa using he
    rw [hs, hk, has_put_same hI (by unfold keyL; trivial)]
    refine ⟨by simp [hb], fun k hk2 => ?_⟩
    rw [atKey_put_same hI (by unfold keyL; trivial)]
    simp only [hb, cond_true, Option.some.injEq] at hk2
    rw [← hk2]
  · have hk : keyL s ≠ keyL c.name := fun e => he ((keyL_eq s c.name).1 e).symm
    have hb : (c.name.toList == s.toList) = false := by simpa using he
    rw [has_put_other hk, atKey_put_other hk, (hD s).1]
    cases hs : findN cs s with
    | none => simp [hb]
    | some k =>
      refine ⟨rfl, fun k' hk' => ?_⟩
      have e : k = k' := Option.some.inj hk'
      rw [← e]
      exact (hD s).2 k hs

/- The linker: its codes, how many are of the libraries, the map. -/
def lkCells (v : Value) (libs M : Nat) : List Value := [v, .int .i64 libs, .map (some M)]
structure LkSt (w : World) (B L M : Nat) (cs : List Cod) (libs : Nat) (v : Value) : Prop where
  l : Blk w L (lkCells v libs M) 98
  c : CodsAt w cs (fun b => B ≤ b ∧ b ≠ L ∧ b ≠ M) v
  m : MapAt w M cs
  lo : B ≤ L ∧ B ≤ M
  ne : L ≠ M
theorem LkSt.below {w w' : World} {B L M : Nat} {cs : List Cod} {libs : Nat} {v : Value} (h : LkSt w B L M cs libs v) (hb : Below w.heap.size w w') : LkSt w' B L M cs libs v := ⟨h.l.stays hb, h.c.below hb, h.m.below hb, h.lo, h.ne⟩
theorem LkSt.alloc {w : World} {B L M : Nat} {cs : List Cod} {libs : Nat} {v : Value} (h : LkSt w B L M cs libs v) (o : Obj) : LkSt (w.alloc o) B L M cs libs v := h.below ((Below.refl _ _).alloc (Nat.le_refl _) _)
theorem LkSt.drew {w : World} {B L M : Nat} {cs : List Cod} {libs : Nat} {v : Value} (h : LkSt w B L M cs libs v) : LkSt w.drew B L M cs libs v := h.below (Below.refl _ _).drew

theorem KAt.own {e : TypeId} {w : World} {ks : List T} {S : Nat → Prop} {g n c : Nat} (h : KAt e w ks S (.slice (some ⟨g, 0, none⟩) n c)) : S g := by
  obtain ⟨_, _, hS, _⟩ := h
  exact hS g rfl

theorem isLib_any {w : World} {L M libs : Nat} {v : Value} (h : Blk w L (lkCells v libs M) 98) (n : Int) :
    Calls Tryd.prog 65 #[.pointer (some ⟨L, 0, none⟩), .int .i64 n] w fun e w' => e = .returned (.bool (decide (n < (libs : Int)))) ∧ w = w' := by
  have hc1 : w.cell? ⟨L, 1, none⟩ = some (.int .i64 (libs : Int)) := h.cell 1
  go_enter Tryd.func65, Tryd.ntmps65
  go_wp2_with fail
  go_ret
  exact ⟨rfl, rfl⟩
end

section
open Go.RowKit Go.Maps

theorem below_nqL {B : Nat} {a w : World} (h : Below B a w) (n : Nat) : Below B a (w.drewN n) := ⟨h.os, h.tape, h.output, h.size, h.block⟩
theorem isLib_quiet {L M libs : Nat} {v : Value} (W : World) (p q : Nat) (h : Blk W L (lkCells v libs M) 98) (n : Int) (b : Bool) (hb : decide (n < (libs : Int)) = b) :
    Calls Tryd.prog 65 #[.pointer (some ⟨L, 0, none⟩), .int .i64 n] (W.drewN (p + q)) fun e w'' => e = .returned (.bool b) ∧ ∃ m, w'' = W.drewN (p + m) :=
  (isLib_any (w := W.drewN (p + q)) h n).mono fun _ _ ⟨he, hw⟩ => ⟨by rw [he, hb], q, hw.symm⟩
theorem heap_drewN (W : World) (q : Nat) : (W.drewN q).heap = W.heap := rfl
def resV (cs : List Cod) (libs : Nat) (op : Int) (y : ByteArray) (n : Nat) : Int :=
  bif op == 12 || op == 13 then
    match findN cs y with
    | none => 31
    | some k => bif (decide (k < libs)) != (op == 12) then 31 else bif ((cs.getD k cod0).params.length : Int) != (n : Int) then 51 else 0
  else 0
theorem getD_cod {cs : List Cod} {k : Nat} {c : Cod} (h : cs[k]? = some c) : cs.getD k cod0 = c := by simp [List.getD, h]

set_option maxRecDepth 100000 in
set_option maxHeartbeats 2000000 in
theorem resolve_any {w : World} {B L M : Nat} {cs : List Cod} {libs : Nat} {v : Value} (h : LkSt w B L M cs libs v) {op : Int} {pl : Nat} {x y an bn : ByteArray} {am bm tt : Int} {A : Option Addr} {n cap : Nat} {has : Bool} (hy : y.size ≤ maxLen)
    {i : Ins} (h1 : i.op = op) (h2 : i.y = y) (h3 : i.args.length = n) :
    Calls Tryd.prog 64 #[.pointer (some ⟨L, 0, none⟩), .agg #[.int .i64 op, .int .i64 pl, .string x, .string y, .string an, .int .i64 am, .string bn, .int .i64 bm, .slice A n cap, .int .i64 tt, .bool has]] w fun e w' => e = .returned (.int .i64 (resL cs libs i)) ∧ Below w.heap.size w w' := by
  have hres : resL cs libs i = resV cs libs op y n := by subst h1 h2 h3; rfl
  rw [hres]
  clear hres h1 h2 h3 i
  obtain ⟨c, hc, hrun⟩ := h.m.look hy
  obtain ⟨W0, hW0⟩ : ∃ W0, w.alloc (.cells [.int .i64 op, .int .i64 pl, .string x, .string y, .string an, .int .i64 am, .string bn, .int .i64 bm, .slice A n cap, .int .i64 tt, .bool has].toArray 43) = W0 := ⟨_, rfl⟩
  have H0 := Lib.hid (show LkSt W0 B L M cs libs v from hW0 ▸ h.alloc _)
  have HB := Lib.hid (show Below w.heap.size w W0 from hW0 ▸ (Below.refl _ _).alloc (Nat.le_refl _) _)
  have HI := Lib.hid (show Blk W0 w.heap.size [.int .i64 op, .int .i64 pl, .string x, .string y, .string an, .int .i64 am, .string bn, .int .i64 bm, .slice A n cap, .int .i64 tt, .bool has] 43 from hW0 ▸ Blk.new w _ _)
  have hlk : ∀ q, (Instr.lookup 66 (.map (some M)) (.string y) true).run Tryd.prog (W0.drewN q) = .ok (.tuple #[.int .i64 c, .bool (findN cs y).isSome]) (W0.drewN q) := fun q => hrun _ ((heap_drewN W0 q).symm ▸ HB.out.block M h.m.lt)
  have o0 : W0.cell? ⟨w.heap.size, 0, none⟩ = some (.int .i64 op) := HI.out.cell 0
  have o3 : W0.cell? ⟨w.heap.size, 3, none⟩ = some (.string y) := HI.out.cell 3
  have o6 : W0.cell? ⟨w.heap.size, 8, none⟩ = some (.slice A n cap) := HI.out.cell 8
  have l2 : W0.cell? ⟨L, 2, none⟩ = some (.map (some M)) := H0.out.l.cell 2
  have l0 : W0.cell? ⟨L, 0, none⟩ = some v := H0.out.l.cell 0
  clear hrun h
  go_enter Tryd.func64, Tryd.ntmps64
  go_upto_region 1 with fail
  try rw [hW0]
  clear hW0
  have h4 : op = 12 ∨ op = 13 ∨ ((op == 12) = false ∧ (op == 13) = false ∧ (op != 12) = true ∧ (op != 13) = true) := by simp only [beq_eq_false_iff_ne, bne_iff_ne, ne_eq]; omega
  rcases h4 with rfl | rfl | ⟨b1, b2, b3, b4⟩
  · cases hf : findN cs y with
    | none =>
      rw [hf] at hlk
      go_wp2_with fail
      go_quiet (fail)
      go_wp2_with fail
      go_quiet (fail)
      go_wp2_with fail
      go_ret
      refine ⟨?_, below_nqL (below_nqL HB.out _) _⟩
      unfold resV
      rw [hf]
      rfl
    | some k =>
      obtain rfl := hc k hf
      have hkl := findN_lt hf
      obtain ⟨g, cap', rfl, hg, hcap, hcm, hget⟩ := (show ∃ g cap', v = .slice (some ⟨g, 0, none⟩) cs.length cap' ∧ _ from (H0.out.c.form).resolve_left fun h => by rw [h.2] at hkl; simp at hkl)
      obtain ⟨pv, lv, hra, hca⟩ := hget k _ (List.getElem?_eq_getElem hkl)
      obtain ⟨pa, pc, rfl⟩ := hca.1.slice
      have hD : cs.getD k cod0 = cs[k] := getD_cod (List.getElem?_eq_getElem hkl)
      generalize cs[k] = cd at hra hca hD
      have e1 : W0.cell? ⟨g, k * 3 + 1, none⟩ = some (.slice pa cd.params.length pc) := hra 1 _ rfl
      have hk1 : (k : Int) < (cs.length : Int) := by omega
      have hk0 : (0 : Int) ≤ (k : Int) := by omega
      have HR := Lib.hid (show resV cs libs 12 y n = bif (decide (k < libs)) != true then 31 else bif (cd.params.length : Int) != (n : Int) then 51 else 0 by unfold resV; rw [hf, ← hD]; rfl)
      rw [hf] at hlk
      unfold maxLen at hcm
      clear hget hra hca hD hf
      go_wp2_with fail
      go_quiet (fail)
      by_cases hkx : k < libs
      · have hki : (k : Int) < (libs : Int) := by omega
        have hkd : decide ((k : Int) < (libs : Int)) = true := by simpa using hki
        have HR2 := Lib.hid (show decide (k < libs) = true by simpa using hkx)
        go_wp2_with fail
        go_quiet (exact isLib_quiet (libs := libs) (M := M) W0 _ _ H0.out.l _ _ hkd)
        go_wp2_with fail
        go_quiet (fail)
        by_cases hpn : cd.params.length = n
        · have hpe : ((cd.params.length : Int) != (n : Int)) = false := by simp [hpn]
          go_wp2_with fail
          go_ret
          refine ⟨?_, (by repeat (first | exact HB.out | apply below_nqL))⟩
          rw [HR.out, HR2.out, hpe]
          rfl
        · have hpe : ((cd.params.length : Int) != (n : Int)) = true := by simp; omega
          go_wp2_with fail
          go_ret
          refine ⟨?_, (by repeat (first | exact HB.out | apply below_nqL))⟩
          rw [HR.out, HR2.out, hpe]
          rfl
      · have hkd : decide ((k : Int) < (libs : Int)) = false := by simp; omega
        have HR2 := Lib.hid (show decide (k < libs) = false by simpa using hkx)
        go_wp2_with fail
        go_quiet (exact isLib_quiet (libs := libs) (M := M) W0 _ _ H0.out.l _ _ hkd)
        go_wp2_with fail
        go_ret
        refine ⟨?_, (by repeat (first | exact HB.out | apply below_nqL))⟩
        rw [HR.out, HR2.out]
        rfl
  · cases hf : findN cs y with
    | none =>
      rw [hf] at hlk
      go_wp2_with fail
      go_quiet (fail)
      go_wp2_with fail
      go_quiet (fail)
      go_wp2_with fail
      go_ret
      refine ⟨?_, below_nqL (below_nqL HB.out _) _⟩
      unfold resV
      rw [hf]
      rfl
    | some k =>
      obtain rfl := hc k hf
      have hkl := findN_lt hf
      obtain ⟨g, cap', rfl, hg, hcap, hcm, hget⟩ := (show ∃ g cap', v = .slice (some ⟨g, 0, none⟩) cs.length cap' ∧ _ from (H0.out.c.form).resolve_left fun h => by rw [h.2] at hkl; simp at hkl)
      obtain ⟨pv, lv, hra, hca⟩ := hget k _ (List.getElem?_eq_getElem hkl)
      obtain ⟨pa, pc, rfl⟩ := hca.1.slice
      have hD : cs.getD k cod0 = cs[k] := getD_cod (List.getElem?_eq_getElem hkl)
      generalize cs[k] = cd at hra hca hD
      have e1 : W0.cell? ⟨g, k * 3 + 1, none⟩ = some (.slice pa cd.params.length pc) := hra 1 _ rfl
      have hk1 : (k : Int) < (cs.length : Int) := by omega
      have hk0 : (0 : Int) ≤ (k : Int) := by omega
      have HR := Lib.hid (show resV cs libs 13 y n = bif (decide (k < libs)) != false then 31 else bif (cd.params.length : Int) != (n : Int) then 51 else 0 by unfold resV; rw [hf, ← hD]; rfl)
      rw [hf] at hlk
      unfold maxLen at hcm
      clear hget hra hca hD hf
      go_wp2_with fail
      go_quiet (fail)
      by_cases hkx : k < libs
      · have hki : (k : Int) < (libs : Int) := by omega
        have hkd : decide ((k : Int) < (libs : Int)) = true := by simpa using hki
        have HR2 := Lib.hid (show decide (k < libs) = true by simpa using hkx)
        go_wp2_with fail
        go_quiet (exact isLib_quiet (libs := libs) (M := M) W0 _ _ H0.out.l _ _ hkd)
        go_wp2_with fail
        go_ret
        refine ⟨?_, (by repeat (first | exact HB.out | apply below_nqL))⟩
        rw [HR.out, HR2.out]
        rfl
      · have hkd : decide ((k : Int) < (libs : Int)) = false := by simp; omega
        have HR2 := Lib.hid (show decide (k < libs) = false by simpa using hkx)
        go_wp2_with fail
        go_quiet (exact isLib_quiet (libs := libs) (M := M) W0 _ _ H0.out.l _ _ hkd)
        go_wp2_with fail
        go_quiet (fail)
        by_cases hpn : cd.params.length = n
        · have hpe : ((cd.params.length : Int) != (n : Int)) = false := by simp [hpn]
          go_wp2_with fail
          go_ret
          refine ⟨?_, (by repeat (first | exact HB.out | apply below_nqL))⟩
          rw [HR.out, HR2.out, hpe]
          rfl
        · have hpe : ((cd.params.length : Int) != (n : Int)) = true := by simp; omega
          go_wp2_with fail
          go_ret
          refine ⟨?_, (by repeat (first | exact HB.out | apply below_nqL))⟩
          rw [HR.out, HR2.out, hpe]
          rfl
  · go_wp2_with fail
    go_ret
    refine ⟨?_, HB.out⟩
    unfold resV
    rw [b1, b2]
    rfl

set_option maxRecDepth 100000 in
set_option maxHeartbeats 2000000 in
theorem lmain_any {w : World} {B L M : Nat} {cs : List Cod} {libs : Nat} {v : Value} (h : LkSt w B L M cs libs v) :
    Calls Tryd.prog 44 #[.pointer (some ⟨L, 0, none⟩)] w fun e w' => e = .returned (.tuple #[.int .i64 (((mainL cs libs).getD 0 : Nat) : Int), .bool (mainL cs libs).isSome]) ∧ w = w' := by
  obtain ⟨c, hc, hrun⟩ := h.m.look (s := mainS) (by unfold maxLen; decide)
  have hlk : (Instr.lookup 66 (.map (some M)) (.string ⟨#[109, 97, 105, 110]⟩) true).run Tryd.prog w = .ok (.tuple #[.int .i64 c, .bool (findN cs mainS).isSome]) w := hrun w rfl
  have l2 : w.cell? ⟨L, 2, none⟩ = some (.map (some M)) := h.l.cell 2
  have l0 : w.cell? ⟨L, 0, none⟩ = some v := h.l.cell 0
  have H := Lib.hid h
  clear hrun h
  go_enter Tryd.func44, Tryd.ntmps44
  cases hf : findN cs mainS with
  | none =>
    rw [hf] at hlk
    have HR := Lib.hid (show mainL cs libs = none by unfold mainL; rw [hf])
    go_wp2_with fail
    go_ret2
    rw [HR.out]
    exact ⟨rfl, rfl⟩
  | some k =>
    obtain rfl := hc k hf
    have hkl := findN_lt hf
    obtain ⟨g, cap', rfl, hg, hcap, hcm, hget⟩ := (show ∃ g cap', v = .slice (some ⟨g, 0, none⟩) cs.length cap' ∧ _ from (H.out.c.form).resolve_left fun h => by rw [h.2] at hkl; simp at hkl)
    obtain ⟨pv, lv, hra, hca⟩ := hget k _ (List.getElem?_eq_getElem hkl)
    obtain ⟨pa, pc, rfl⟩ := hca.1.slice
    have hD : cs.getD k cod0 = cs[k] := getD_cod (List.getElem?_eq_getElem hkl)
    generalize cs[k] = cd at hra hca hD
    have e1 : w.cell? ⟨g, k * 3 + 1, none⟩ = some (.slice pa cd.params.length pc) := hra 1 _ rfl
    have hk1 : (k : Int) < (cs.length : Int) := by omega
    have hk0 : (0 : Int) ≤ (k : Int) := by omega
    have HR := Lib.hid (show mainL cs libs = bif decide (k < libs) || decide (0 < cd.params.length) then none else some k by unfold mainL; rw [hf, ← hD])
    rw [hf] at hlk
    unfold maxLen at hcm
    clear hget hra hca hD hf
    go_wp2_with fail
    refine (isLib_any (libs := libs) (M := M) H.out.l _).mono ?_
    rintro e w1 ⟨rfl, rfl⟩
    by_cases hkx : k < libs
    · have hkd : decide ((k : Int) < (libs : Int)) = true := by simp; omega
      rw [hkd]
      go_wp2_with fail
      go_ret2
      rw [HR.out, show decide (k < libs) = true by simpa using hkx]
      exact ⟨rfl, rfl⟩
    · have hkd : decide ((k : Int) < (libs : Int)) = false := by simp; omega
      rw [hkd]
      by_cases hpn : 0 < cd.params.length
      · have hpi : (0 : Int) < (cd.params.length : Int) := by omega
        go_wp2_with fail
        go_ret2
        rw [HR.out, show decide (k < libs) = false by simpa using hkx, show decide (0 < cd.params.length) = true by simpa using hpn]
        exact ⟨rfl, rfl⟩
      · have hpi : ¬ (0 : Int) < (cd.params.length : Int) := by omega
        go_wp2_with fail
        go_ret2
        rw [HR.out, show decide (k < libs) = false by simpa using hkx, show decide (0 < cd.params.length) = false by simpa using hpn]
        exact ⟨rfl, rfl⟩
end

section
open Go.RowKit Go.Maps

theorem Tryd.sizeLinker : (Tryd.prog.info? 98).map (·.size) = some 3 := by kernel_rfl
/- A store into the map, at the operation. -/
theorem wp_mapUpdate_own {H : Type} {P : Program} (w : World) {o : Oper} {a : Act} {K' : Act → World → Prop} {Q : Exit → Act → World → Prop}
    (m x v : Operand) (t : TypeId) (hop : o.op = Op.mapUpdate t m x v)
    (k e : TypeId) (K : Keyed P k) (ht : P.underlying t = some (.map k e)) (R : Value → Option (DataW H × List MemPlace)) (b n : Nat) (D : DataW H)
    (hm : a.eval m = .map (some b)) (hown : w.ownsMap P k R b n D) (hn : n < maxLen) (key val : Value) (kl : Lit) (hx : a.eval x = key) (hv : a.eval v = val) (hkey : keyOf P k key = some kl)
    (d : DataW H) (ps : List MemPlace) (hval : R val = some (d, ps))
    (hK : ∀ w', w'.ownsMap P k R b (n + 1) (D.put kl d) → w.grownBy w' (some b) → K' (a.put o.dst undef) w') : o.wp P a w K' Q := by
  obtain ⟨w', hrun, r1, r2⟩ := hown.update K ht hn hkey hval
  unfold Oper.wp
  simp [execOp, hop, hm, hx, hv, hrun, Result.andThen]
  exact hK w' r1 r2

/- What is kept of the texts' names. -/
def NamesOk (ts : List T) : Prop := ∀ t ∈ ts, t.kind = 6 → t.text.size ≤ maxLen
def AddPost (w : World) (B L M : Nat) (libs : Nat) (r : List Cod × Option Nat) (e : Ending) (w' : World) : Prop :=
  ∃ v', e = .returned (.tuple #[.int .i64 ((r.2.getD 0 : Nat) : Int), .int .i64 (bif r.2.isSome then 30 else 0)]) ∧ LkSt w' B L M r.1 libs v' ∧ Below B w w'

/- A name is told in the map. -/
theorem LkSt.name {w w1 : World} {B L M : Nat} {cs : List Cod} {libs : Nat} {v : Value} (h : LkSt w B L M cs libs v) {row : Option Nat} (hg : w.grownBy w1 row) (hr : row = some M) : Blk w1 L (lkCells v libs M) 98 ∧ CodsAt w1 cs (fun b => B ≤ b ∧ b ≠ L ∧ b ≠ M) v ∧ Below B w w1 := by
  subst hr
  refine ⟨h.l.grown hg (fun e => h.ne (Option.some.inj e)), h.c.keep fun b hb hl => ⟨hb, hg.block b hl (fun e => hb.2.2 (Option.some.inj e))⟩, ⟨hg.os, hg.tape, hg.output, Nat.le_trans (by have := h.m.lt; have := h.lo; omega) hg.size, fun k hk => hg.block k (Nat.lt_of_lt_of_le hk (by have := h.m.lt; have := h.lo; omega)) (fun e => by have := Option.some.inj e; have := h.lo; omega)⟩⟩

def AddRel (w : World) (B L M libs : Nat) (cs0 : List Cod) (ks : List T) (g : Nat) (i : Value) (wr : World) : Prop :=
  ∃ (k : Nat) (cs : List Cod) (v : Value), k ≤ ks.length ∧ ks.length ≤ k + g ∧ i = .int .i64 k ∧ LkSt wr B L M cs libs v ∧ Below B w wr ∧ w.heap.size ≤ wr.heap.size ∧ addL cs0 ks = addL cs (ks.drop k) ∧ cs.length ≤ cs0.length + k

set_option maxRecDepth 100000 in
set_option maxHeartbeats 400000 in
theorem add_any {w : World} {B L M libs : Nat} {cs0 : List Cod} {v0 : Value} (h : LkSt w B L M cs0 libs v0) {t : T} {kv : Value} (hk : KAt 25 w t.kids (fun b => b < B) kv) (hw : t.whole) (hs : t.size ≤ 4990) (hn : NamesOk t.kids) (hc0 : cs0.length ≤ 4990) :
    Calls Tryd.prog 42 #[.pointer (some ⟨L, 0, none⟩), NodeV t kv] w (AddPost w B L M libs (addL cs0 t.kids)) := by
  have hts : t.size = 1 + sizes t.kids := by cases t; rw [size_mk]; rfl
  have hkl := len_sizes t.kids
  have HWH := Lib.hid (whole_eq.1 hw).2
  have HTS := Lib.hid hts
  have HS := Lib.hid hs
  have HNM := Lib.hid hn
  have HC0 := Lib.hid hc0
  have H := Lib.hid h
  have hBw : B ≤ w.heap.size := by have := h.m.lt; have := h.lo; omega
  have HBW := Lib.hid hBw
  rcases hk.form with ⟨rfl, hnil⟩ | ⟨g, cap, rfl, hg, hcap, hcm, hget⟩
  · have HN := Lib.hid hnil
    have HE := Lib.hid (h.alloc (.cells (nodeCells t (.slice none 0 0)).toArray 25))
    have HB := Lib.hid (show Below B w (w.alloc (.cells (nodeCells t (.slice none 0 0)).toArray 25)) from (Below.refl _ _).alloc hBw _)
    clear hk hw hs hn hts hkl hnil h hBw hc0
    unfold NodeV
    go_enter Tryd.func42, Tryd.ntmps42
    go_wp2_with fail
    refine wp_loop_rounds 1 ?_
    rw [rounds_succ]
    go_wp2_with fail
    go_ret2
    refine ⟨v0, ?_, ?_, HB.out⟩
    · rw [HN.out]; rfl
    · rw [HN.out]; exact HE.out
  · have HK := Lib.hid hk
    have HGET := Lib.hid hget
    have HCAP := Lib.hid hcap
    have HST : Hid (AddRel w B L M libs cs0 t.kids t.kids.length (.int .i64 0) (w.alloc (.cells (nodeCells t (.slice (some ⟨g, 0, none⟩) t.kids.length cap)).toArray 25))) := Lib.hid ⟨0, cs0, v0, by omega, by omega, rfl, h.alloc _, (Below.refl _ _).alloc hBw _, by simp, by simp, by omega⟩
    have HGB := Lib.hid (show g < B from hk.own)
    clear hk hget hcap hw hs hn h hBw hc0
    unfold maxLen at hcm
    unfold NodeV
    go_enter Tryd.func42, Tryd.ntmps42
    go_wp2_with fail
    go_loopg [13] t.kids.length (fun gk i wr => AddRel w B L M libs cs0 t.kids gk i wr)
    case atStart => exact HST.out
    case round =>
      obtain ⟨k, cs, v, hk, hgk, rfl, hst, hbel, hsz, hadd, hcl⟩ := hrel
      have HSTR := Lib.hid hst
      have HBR := Lib.hid hbel
      have HADD := Lib.hid hadd
      have HCL := Lib.hid hcl
      obtain ⟨va, vc, rfl⟩ := hst.c.slice
      clear hst hbel hadd
      by_cases hlt : k < t.kids.length
      · obtain ⟨u, hr, hT⟩ := HGET.out k t.kids[k] (List.getElem?_eq_getElem hlt)
        have hne := List.getElem?_eq_getElem hlt
        have hks := sizes_mem hne
        have HDR := Lib.hid (show t.kids.drop k = t.kids[k] :: t.kids.drop (k + 1) from (List.drop_eq_getElem_cons hlt))
        generalize t.kids[k] = tk at hr hT hne hks HDR
        have HR := Lib.hid (show wr.rangeAt g (k * 5) (nodeCells tk u) from fun j x hj => (HBR.out.cell (p := ⟨g, k * 5 + j, none⟩) (show g < B from HGB.out)).trans (hr j x hj))
        have HTK := Lib.hid (show TAt 25 wr tk (fun b => b < B) u from TAt.keep _ hT fun b hb hl => ⟨hb, HBR.out.block b hb⟩)
        have HTW := Lib.hid (show tk.whole from wholes_mem HWH.out (List.mem_of_getElem? hne))
        have HTZ := Lib.hid (show tk.size ≤ 4990 from by have := HTS.out; have := HS.out; omega)
        have HTN := Lib.hid (show tk.kind = 6 → tk.text.size ≤ maxLen from HNM.out tk (List.mem_of_getElem? hne))
        have hcap := HCAP.out
        clear hr hT hne hks
        by_cases h6 : tk.kind = 6
        · obtain ⟨kk, kt, kn, kp, kks⟩ := tk
          obtain rfl : kk = 6 := h6
          have htn : kt.size ≤ maxLen := HTN.out rfl
          have HTN2 := Lib.hid htn
          obtain ⟨W, hW⟩ : ∃ W, wr.alloc (.cells [.int .i64 6, .string kt, .int .i64 kn, .int .i64 kp, u].toArray 25) = W := ⟨_, rfl⟩
          have HBLK := Lib.hid (show Blk W wr.heap.size [.int .i64 6, .string kt, .int .i64 kn, .int .i64 kp, u] 25 from hW ▸ Blk.new wr _ _)
          have HSW := Lib.hid (show LkSt W B L M cs libs _ from hW ▸ HSTR.out.alloc _)
          have HBWW := Lib.hid (show Below B w W from hW ▸ HBR.out.alloc (by have := HBW.out; omega) _)
          have HKW := Lib.hid (show KAt 25 W kks (fun b => b < B) u from hW ▸ (HTK.out.alloc _).kat)
          obtain ⟨c, hc, hrun⟩ := HSW.out.m.look htn
          have hlk : ∀ q, (Instr.lookup 66 (.map (some M)) (.string kt) true).run Tryd.prog (W.drewN q) = .ok (.tuple #[.int .i64 c, .bool (findN cs kt).isSome]) (W.drewN q) := fun q => hrun _ rfl
          have n0 : W.cell? ⟨wr.heap.size, 0, none⟩ = some (.int .i64 6) := HBLK.out.cell 0
          have n1 : W.cell? ⟨wr.heap.size, 1, none⟩ = some (.string kt) := HBLK.out.cell 1
          have n3 : W.cell? ⟨wr.heap.size, 3, none⟩ = some (.int .i64 kp) := HBLK.out.cell 3
          have l2 : W.cell? ⟨L, 2, none⟩ = some (.map (some M)) := HSW.out.l.cell 2
          clear hrun hc htn hcl
          go_wp2_with (first
            | ((with_reducible refine at_ld 25 (.tmp 15) ?_); refine wpList_load_mid rfl 25 (.tmp 15) rfl g (k * 5) rfl [.int .i64 6, .string kt, .int .i64 kn, .int .i64 kp, u] _ HR.out Tryd.underlying25 rfl Tryd.sizeNode ?_)
            | ((with_reducible refine at_st 25 (.tmp 7) ?_); refine wpList_store_new rfl 25 (.tmp 7) (.tmp 16) rfl [.int .i64 6, .string kt, .int .i64 kn, .int .i64 kp, u] (old := zeroNodeCells) rfl rfl Tryd.sizeNode rfl (nodeCells_one (T.mk 6 kt kn kp kks) _ HTK.out.kat.one) ?_))
          clear hW
          cases hf : findN cs kt with
          | some q =>
            rw [hf] at hlk
            go_quiet (fail)
            go_wp2_with fail
            go_ret2
            have he : addL cs0 t.kids = (cs, some kp) := by
              rw [HADD.out, HDR.out, addL_cons]
              show (bif (findN cs kt).isSome then (cs, some kp) else _) = _
              rw [hf]; rfl
            rw [he]
            exact ⟨_, rfl, HSW.out.below (below_nqL (Below.refl _ _) _), below_nqL HBWW.out _⟩
          | none =>
            rw [hf] at hlk
            go_quiet (fail)
            have HS8 := Lib.hid (HSW.out.below (below_nqL (Below.refl _ _) nq))
            have HB8 := Lib.hid (below_nqL HBWW.out nq)
            have HN8 := Lib.hid (show Blk (W.drewN nq) wr.heap.size [.int .i64 6, .string kt, .int .i64 kn, .int .i64 kp, u] 25 from HBLK.out)
            have HK8 := Lib.hid (HKW.out.below (below_nqL (Below.refl _ _) nq))
            clear HSW HBWW HBLK HKW n0 n1 n3 l2 hlk
            generalize W.drewN nq = W1 at *
            go_wp2_with fail
            refine AnyE.begin2 (S := fun W => Blk W L (lkCells (.slice va cs.length vc) libs M) 98 ∧ Blk W wr.heap.size [.int .i64 6, .string kt, .int .i64 kn, .int .i64 kp, u] 25) (by kernel_rfl) ⟨HS8.out.drew.l, HN8.out.drew⟩ (fun hS => ?_)
            refine AnyE.take (i := 0) (oi := ⟨some 33, _, _, _, _, _⟩) (v := .pointer (some ⟨L, 0, none⟩)) rfl (by kernel_rfl) (by kernel_rfl) (by kernel_rfl) (by kernel_rfl) (fun _ _ _ h => h) (Or.inl ⟨by rfl, fun W _ => by go_simp⟩) hS ?_
            try simp only [Act.put, List.setIfInBounds_toArray, List.set_cons_zero, List.set_cons_succ]
            refine AnyE.take (i := 1) (oi := ⟨some 34, _, _, _, _, _⟩) (v := .pointer (some ⟨L, 0, none⟩)) rfl (by kernel_rfl) (by kernel_rfl) (by kernel_rfl) (by kernel_rfl) (fun _ _ _ h => h) (Or.inl ⟨by rfl, fun W _ => by go_simp⟩) hS ?_
            try simp only [Act.put, List.setIfInBounds_toArray, List.set_cons_zero, List.set_cons_succ]
            refine AnyE.take (i := 2) (oi := ⟨some 35, _, _, _, _, _⟩) (v := .pointer (some ⟨L, 2, none⟩)) rfl (by kernel_rfl) (by kernel_rfl) (by kernel_rfl) (by kernel_rfl) (fun _ _ _ h => h) (Or.inl ⟨by rfl, fun W _ => by go_simp⟩) hS ?_
            try simp only [Act.put, List.setIfInBounds_toArray, List.set_cons_zero, List.set_cons_succ]
            refine AnyE.take (i := 3) (oi := ⟨some 36, _, _, _, _, _⟩) (v := .map (some M)) rfl (by kernel_rfl) (by kernel_rfl) (by kernel_rfl) (by kernel_rfl) (fun _ _ _ h => h) (Or.inl ⟨by rfl, fun W hW => by have hcx : W.cell? ⟨L, 2, none⟩ = some (.map (some M)) := (hW.1).cell 2; go_simp⟩) hS ?_
            try simp only [Act.put, List.setIfInBounds_toArray, List.set_cons_zero, List.set_cons_succ]
            refine AnyE.take (i := 4) (oi := ⟨some 37, _, _, _, _, _⟩) (v := .pointer (some ⟨wr.heap.size, 1, none⟩)) rfl (by kernel_rfl) (by kernel_rfl) (by kernel_rfl) (by kernel_rfl) (fun _ _ _ h => h) (Or.inl ⟨by rfl, fun W _ => by go_simp⟩) hS ?_
            try simp only [Act.put, List.setIfInBounds_toArray, List.set_cons_zero, List.set_cons_succ]
            refine AnyE.take (i := 5) (oi := ⟨some 38, _, _, _, _, _⟩) (v := .string kt) rfl (by kernel_rfl) (by kernel_rfl) (by kernel_rfl) (by kernel_rfl) (fun _ _ _ h => h) (Or.inl ⟨by rfl, fun W hW => by have hcx : W.cell? ⟨wr.heap.size, 1, none⟩ = some (.string kt) := (hW.2).cell 1; go_simp⟩) hS ?_
            try simp only [Act.put, List.setIfInBounds_toArray, List.set_cons_zero, List.set_cons_succ]
            refine AnyE.take (i := 6) (oi := ⟨some 39, _, _, _, _, _⟩) (v := .pointer (some ⟨L, 0, none⟩)) rfl (by kernel_rfl) (by kernel_rfl) (by kernel_rfl) (by kernel_rfl) (fun _ _ _ h => h) (Or.inl ⟨by rfl, fun W _ => by go_simp⟩) hS ?_
            try simp only [Act.put, List.setIfInBounds_toArray, List.set_cons_zero, List.set_cons_succ]
            refine AnyE.take (i := 7) (oi := ⟨some 40, _, _, _, _, _⟩) (v := .pointer (some ⟨L, 0, none⟩)) rfl (by kernel_rfl) (by kernel_rfl) (by kernel_rfl) (by kernel_rfl) (fun _ _ _ h => h) (Or.inl ⟨by rfl, fun W _ => by go_simp⟩) hS ?_
            try simp only [Act.put, List.setIfInBounds_toArray, List.set_cons_zero, List.set_cons_succ]
            refine AnyE.take (i := 8) (oi := ⟨some 41, _, _, _, _, _⟩) (v := .pointer (some ⟨L, 0, none⟩)) rfl (by kernel_rfl) (by kernel_rfl) (by kernel_rfl) (by kernel_rfl) (fun _ _ _ h => h) (Or.inl ⟨by rfl, fun W _ => by go_simp⟩) hS ?_
            try simp only [Act.put, List.setIfInBounds_toArray, List.set_cons_zero, List.set_cons_succ]
            refine AnyE.take (i := 9) (oi := ⟨some 42, _, _, _, _, _⟩) (v := .slice va cs.length vc) rfl (by kernel_rfl) (by kernel_rfl) (by kernel_rfl) (by kernel_rfl) (fun _ _ _ h => h) (Or.inl ⟨by rfl, fun W hW => by have hcx : W.cell? ⟨L, 0, none⟩ = some (.slice va cs.length vc) := (hW.1).cell 0; go_simp⟩) hS ?_
            try simp only [Act.put, List.setIfInBounds_toArray, List.set_cons_zero, List.set_cons_succ]
            refine AnyE.take (i := 10) (oi := ⟨some 43, _, _, _, _, _⟩) (v := .int .i64 (cs.length : Int)) rfl (by kernel_rfl) (by kernel_rfl) (by kernel_rfl) (by kernel_rfl) (fun _ _ _ h => h) (Or.inl ⟨by rfl, fun W _ => by go_simp⟩) hS ?_
            try simp only [Act.put, List.setIfInBounds_toArray, List.set_cons_zero, List.set_cons_succ]
            obtain ⟨mn, D, hmo, hmn, hmi, hmd⟩ := HS8.out.drew.m
            refine AnyE.one (i := 11) (o := ⟨none, _, _, _, _, _⟩) (by kernel_rfl) rfl (by rfl) (fun K hK => ?_)
            try simp only [Act.put, List.setIfInBounds_toArray, List.set_cons_zero, List.set_cons_succ]
            have HW1 := Lib.hid (show (Lit.int .i64 (cs.length : Int)).wf = true from WalkArith.wf_i64 (by have := HCL.out; have := HC0.out; have := HTS.out; have := HS.out; omega))
            have HMN := Lib.hid (show mn < maxLen from by have := HCL.out; have := HC0.out; have := HTS.out; have := HS.out; unfold maxLen; omega)
            have HKEY := Lib.hid (show keyOf Tryd.prog 9 (.string kt) = some (keyL kt) from WideMaps.keyOf_string_mk Tryd.underlying9 HTN2.out)
            refine wp_mapUpdate_own (D := D) (R := plainElem Tryd.prog 3) (b := M) (n := mn) (key := .string kt) (val := .int .i64 (cs.length : Int)) (kl := keyL kt) (d := .lit (.int .i64 (cs.length : Int))) (ps := []) W1.drew (.tmp 36) (.tmp 38) (.tmp 43) 66 rfl 9 3 lawStr Tryd.underlying66 (hm := rfl) (hown := hmo) (hn := HMN.out) (hx := rfl) (hv := rfl) (hkey := HKEY.out) (hval := plainElem_int Tryd.underlying3 HW1.out) (hK := fun w1 hm1 hg1 => ?_)
            obtain ⟨hl1, hc1, hb1⟩ := HS8.out.drew.name hg1 rfl
            have hname : (lowerI (T.mk 6 kt kn kp kks)).name = kt := lowerI_name (t := T.mk 6 kt kn kp kks) rfl
            have HM1 := Lib.hid (show MapAt w1 M (cs ++ [lowerI (T.mk 6 kt kn kp kks)]) from MapAt.snoc hmn hmi hmd (by rw [hname]; exact hm1) (by rw [hname]; exact hf))
            have HL1 := Lib.hid hl1
            have HC1 := Lib.hid hc1
            have HB1 := Lib.hid (HB8.out.drew.trans hb1)
            have HN1 := Lib.hid (show Blk w1 wr.heap.size [.int .i64 6, .string kt, .int .i64 kn, .int .i64 kp, u] 25 from HN8.out.drew.grown hg1 (fun e => by have h1 := Option.some.inj e; have h2 := HSTR.out.m.lt; omega))
            have HK1 := Lib.hid (show KAt 25 w1 kks (fun b => b < B) u from KAt.keep HK8.out.drew fun b hb hl => ⟨hb, hb1.block b hb⟩)
            have HADD2 := Lib.hid (show addL cs0 t.kids = addL (cs ++ [lowerI (T.mk 6 kt kn kp kks)]) (t.kids.drop (k + 1)) by
              rw [HADD.out, HDR.out, addL_cons]
              show (bif (findN cs kt).isSome then (cs, some kp) else addL (cs ++ [lowerI (T.mk 6 kt kn kp kks)]) (t.kids.drop (k + 1))) = _
              rw [hf]; rfl)
            have HSZ := Lib.hid (show w.heap.size ≤ w1.heap.size from HB1.out.size)
            have HLT := Lib.hid (show L < w1.heap.size ∧ M < w1.heap.size from ⟨hl1.lt, HM1.out.lt⟩)
            clear hname hmo hmn hmi hmd hm1 hg1 hl1 hc1 hb1 hS
            refine hK.out _ _ (fun h => absurd rfl h) ?_
            clear hK K HS8 HB8 HN8 HK8
            refine AnyE.done (by kernel_rfl) ?_ _
            go_wp2_with fail
            refine AnyE.begin2 (S := fun W => Blk W L (lkCells (.slice va cs.length vc) libs M) 98 ∧ Blk W wr.heap.size [.int .i64 6, .string kt, .int .i64 kn, .int .i64 kp, u] 25) (by kernel_rfl) ⟨HL1.out.drew, HN1.out.drew⟩ (fun hS => ?_)
            refine AnyE.take (i := 0) (oi := ⟨some 44, _, _, _, _, _⟩) (v := .pointer (some ⟨L, 0, none⟩)) rfl (by kernel_rfl) (by kernel_rfl) (by kernel_rfl) (by kernel_rfl) (fun _ _ _ h => h) (Or.inl ⟨by rfl, fun W _ => by go_simp⟩) hS ?_
            try simp only [Act.put, List.setIfInBounds_toArray, List.set_cons_zero, List.set_cons_succ]
            refine AnyE.take (i := 1) (oi := ⟨some 45, _, _, _, _, _⟩) (v := .pointer (some ⟨L, 0, none⟩)) rfl (by kernel_rfl) (by kernel_rfl) (by kernel_rfl) (by kernel_rfl) (fun _ _ _ h => h) (Or.inl ⟨by rfl, fun W _ => by go_simp⟩) hS ?_
            try simp only [Act.put, List.setIfInBounds_toArray, List.set_cons_zero, List.set_cons_succ]
            refine AnyE.take (i := 2) (oi := ⟨some 46, _, _, _, _, _⟩) (v := .pointer (some ⟨L, 0, none⟩)) rfl (by kernel_rfl) (by kernel_rfl) (by kernel_rfl) (by kernel_rfl) (fun _ _ _ h => h) (Or.inl ⟨by rfl, fun W _ => by go_simp⟩) hS ?_
            try simp only [Act.put, List.setIfInBounds_toArray, List.set_cons_zero, List.set_cons_succ]
            refine AnyE.take (i := 3) (oi := ⟨some 47, _, _, _, _, _⟩) (v := .pointer (some ⟨L, 0, none⟩)) rfl (by kernel_rfl) (by kernel_rfl) (by kernel_rfl) (by kernel_rfl) (fun _ _ _ h => h) (Or.inl ⟨by rfl, fun W _ => by go_simp⟩) hS ?_
            try simp only [Act.put, List.setIfInBounds_toArray, List.set_cons_zero, List.set_cons_succ]
            refine AnyE.take (i := 4) (oi := ⟨some 48, _, _, _, _, _⟩) (v := .slice va cs.length vc) rfl (by kernel_rfl) (by kernel_rfl) (by kernel_rfl) (by kernel_rfl) (fun _ _ _ h => h) (Or.inl ⟨by rfl, fun W hW => by have hcx : W.cell? ⟨L, 0, none⟩ = some (.slice va cs.length vc) := (hW.1).cell 0; go_simp⟩) hS ?_
            try simp only [Act.put, List.setIfInBounds_toArray, List.set_cons_zero, List.set_cons_succ]
            refine AnyE.take (i := 5) (oi := ⟨some 49, _, _, _, _, _⟩) (v := .agg #[.int .i64 6, .string kt, .int .i64 kn, .int .i64 kp, u]) rfl (by kernel_rfl) (by kernel_rfl) (by kernel_rfl) (by kernel_rfl) (fun _ _ _ h => h) (yieldsIf_load_mid (cs := [.int .i64 6, .string kt, .int .i64 kn, .int .i64 kp, u]) (by rfl) 25 (.tmp 7) rfl (wr.heap.size) 0 (by go_simp) _ (fun W hW j v hj => by rw [Nat.zero_add, (hW.2).cell j]; exact hj) Tryd.underlying25 rfl Tryd.sizeNode) hS ?_
            try simp only [Act.put, List.setIfInBounds_toArray, List.set_cons_zero, List.set_cons_succ]
            refine AnyE.one (i := 6) (o := ⟨some 50, _, _, _, _, _⟩) (by kernel_rfl) rfl (by rfl) (fun K hK => ?_)
            go_simp
            refine (lower_any (t := T.mk 6 kt kn kp kks) HK1.out.drew HTW.out HTZ.out).mono ?_
            generalize hcd : lowerI (T.mk 6 kt kn kp kks) = cd at *
            rintro e x1 ⟨pv, lv, rfl, hca, hb2⟩
            obtain ⟨pa, pc, rfl⟩ := hca.1.slice
            obtain ⟨la, lc, rfl⟩ := hca.2.slice
            have HC2 := Lib.hid (HC1.out.drew.below hb2)
            have HM2 := Lib.hid (HM1.out.below (w' := x1) ((Below.refl _ _).drew.trans hb2))
            have HB2 := Lib.hid (show Below B w x1 from HB1.out.drew.trans (hb2.mono (by have := HBW.out; have := HSZ.out; show B ≤ w1.heap.size; omega)))
            have HCA := Lib.hid hca
            have hz1 : w1.heap.size ≤ x1.heap.size := hb2.size
            have hS1 : Blk x1 L (lkCells (.slice va cs.length vc) libs M) 98 ∧ Blk x1 wr.heap.size [.int .i64 6, .string kt, .int .i64 kn, .int .i64 kp, u] 25 := ⟨hS.1.stays hb2, hS.2.stays hb2⟩
            clear hS hb2 hca
            have hS := hS1
            clear hS1
            unfold CodV
            refine hK.out _ _ (fun _ => hS) ?_
            clear hK K
            try simp only [Act.put, List.setIfInBounds_toArray, List.set_cons_zero, List.set_cons_succ]
            refine AnyE.one (i := 7) (o := ⟨some 51, _, _, _, _, _⟩) (by kernel_rfl) rfl (by rfl) (fun K hK => ?_)
            go_simp
            have HC3 := Lib.hid (HC2.out.below ((Below.refl _ _).alloc (Nat.le_refl _) (.cells [.string cd.name, .slice pa cd.params.length pc, .slice la cd.list.length lc].toArray 55)))
            have HM3 := Lib.hid (HM2.out.below ((Below.refl _ _).alloc (Nat.le_refl _) (.cells [.string cd.name, .slice pa cd.params.length pc, .slice la cd.list.length lc].toArray 55)))
            have HN3 := Lib.hid (Blk.new x1 [.string cd.name, .slice pa cd.params.length pc, .slice la cd.list.length lc] 55)
            have HB3 := Lib.hid (show Below B w (x1.alloc (.cells [.string cd.name, .slice pa cd.params.length pc, .slice la cd.list.length lc].toArray 55)) from HB2.out.alloc (by have := HBW.out; have := HSZ.out; omega) _)
            have HCA3 := Lib.hid (HCA.out.keep (w' := x1.alloc (.cells [.string cd.name, .slice pa cd.params.length pc, .slice la cd.list.length lc].toArray 55)) (S' := fun b => w1.heap.size ≤ b) fun b hb hl => ⟨hb, Below.heap_alloc _ _ b hl⟩)
            have hS1 : Blk (x1.alloc (.cells [.string cd.name, .slice pa cd.params.length pc, .slice la cd.list.length lc].toArray 55)) L (lkCells (.slice va cs.length vc) libs M) 98 ∧ Blk (x1.alloc (.cells [.string cd.name, .slice pa cd.params.length pc, .slice la cd.list.length lc].toArray 55)) wr.heap.size [.int .i64 6, .string kt, .int .i64 kn, .int .i64 kp, u] 25 := ⟨hS.1.alloc _, hS.2.alloc _⟩
            have hz3 : x1.heap.size < (x1.alloc (.cells [.string cd.name, .slice pa cd.params.length pc, .slice la cd.list.length lc].toArray 55)).heap.size := by simp
            clear hS
            have hS := hS1
            clear hS1 HC2 HM2 HB2 HCA
            refine hK.out _ _ (fun _ => hS) ?_
            clear hK K
            try simp only [Act.put, List.setIfInBounds_toArray, List.set_cons_zero, List.set_cons_succ]
            refine AnyE.one (i := 8) (o := ⟨some 52, _, _, _, _, _⟩) (by kernel_rfl) rfl (by rfl) (fun K hK => ?_)
            obtain ⟨ic, zc, IC⟩ := Tryd.codeInfo
            have HVB := Lib.hid (show ∀ b, (Value.slice va cs.length vc).ownBlock = some b → b < w1.heap.size ∧ (B ≤ b ∧ b ≠ L ∧ b ≠ M) from fun b hb => by
              obtain ⟨us, ho, hs', _⟩ := HC1.out
              exact ⟨(ho.lt b hb).2, hs' b hb⟩)
            refine wp_append_cod (b := x1.heap.size) (.tmp 48) (.tmp 51) rfl IC rfl HC3.out (by have := HLT.out; have := HBW.out; have := HSZ.out; simp; omega) rfl HN3.out (HCA3.out.keep fun b hb _ => ⟨⟨⟨by have := HBW.out; have := HSZ.out; omega, by have := HLT.out; omega, by have := HLT.out; omega⟩, fun e => by have := (HVB.out b e).1; omega⟩, rfl⟩) (by have := HCL.out; have := HC0.out; have := HTS.out; have := HS.out; omega) (fun v' x2 hc2 hg2 hl2 => ?_)
            have hneL : some L ≠ (Value.slice va cs.length vc).ownBlock := fun e => (HVB.out L e.symm).2.2.1 rfl
            have hneM : some M ≠ (Value.slice va cs.length vc).ownBlock := fun e => (HVB.out M e.symm).2.2.2 rfl
            have hneN : some wr.heap.size ≠ (Value.slice va cs.length vc).ownBlock := fun e => by
              obtain ⟨us, ho, _⟩ := HSTR.out.c
              have := (ho.lt _ e.symm).2
              omega
            have hS1 : Blk x2 L (lkCells (.slice va cs.length vc) libs M) 98 ∧ Blk x2 wr.heap.size [.int .i64 6, .string kt, .int .i64 kn, .int .i64 kp, u] 25 := ⟨hS.1.grown hg2 hneL, hS.2.grown hg2 hneN⟩
            have HM4 := Lib.hid (HM3.out.kept hg2 hneM)
            have HB4 := Lib.hid (HB3.out.grown hg2 (by have := HBW.out; have := HSZ.out; omega) fun b hb => (HVB.out b hb).2.1)
            have HC4 := Lib.hid hc2
            obtain ⟨va2, vc2, rfl⟩ := hc2.slice
            clear hS hg2 hc2 hl2 hneL hneM hneN HC3 HM3 HB3 HN3 HCA3
            have hS := hS1
            clear hS1
            refine hK.out _ _ (fun _ => hS) ?_
            clear hK K
            try simp only [Act.put, List.setIfInBounds_toArray, List.set_cons_zero, List.set_cons_succ]
            refine AnyE.one (i := 9) (o := ⟨some 53, _, _, _, _, _⟩) (by kernel_rfl) rfl (by rfl) (fun K hK => ?_)
            go_simp
            refine hK.out _ _ (fun _ => hS) ?_
            clear hK K
            try simp only [Act.put, List.setIfInBounds_toArray, List.set_cons_zero, List.set_cons_succ]
            refine AnyE.take (i := 10) (oi := ⟨some 54, _, _, _, _, _⟩) (v := .pointer (some ⟨L, 0, none⟩)) rfl (by kernel_rfl) (by kernel_rfl) (by kernel_rfl) (by kernel_rfl) (fun _ _ _ h => h) (Or.inl ⟨by rfl, fun W _ => by go_simp⟩) hS ?_
            try simp only [Act.put, List.setIfInBounds_toArray, List.set_cons_zero, List.set_cons_succ]
            have hl0 := hS.1.cell 0
            have hlf := hS.1.frozen 0
            simp only [lkCells, List.getElem?_cons_zero] at hl0
            have HST2 := Lib.hid (show LkSt (x2.setCell ⟨L, 0, none⟩ (.slice va2 (cs ++ [cd]).length vc2)) B L M (cs ++ [cd]) libs (.slice va2 (cs ++ [cd]).length vc2) from
              ⟨hS.1.setSame 0 _, HC4.out.keep fun b hb _ => ⟨hb, Below.heap_setCell _ _ _ _ hb.2.1⟩, HM4.out.same (Below.heap_setCell _ _ _ _ (Ne.symm HSTR.out.ne)), HSTR.out.lo, HSTR.out.ne⟩)
            have HB5 := Lib.hid (HB4.out.setCell (p := ⟨L, 0, none⟩) HSTR.out.lo.1 (.slice va2 (cs ++ [cd]).length vc2))
            refine AnyE.one (i := 11) (o := ⟨none, _, _, _, _, _⟩) (by kernel_rfl) rfl (by rfl) (fun K hK => ?_)
            go_simp
            refine hK.out _ _ (fun h => absurd rfl h) ?_
            clear hK K
            refine AnyE.done (by kernel_rfl) ?_ _
            clear hS hl0 hlf HM4 HC4 HB4
            go_wp2_with fail
            go_roundg (gk - 1)
            case measure => omega
            case rel => exact ⟨k + 1, cs ++ [cd], _, by omega, by omega, by go_num, by first | exact HST2.out | simpa using HST2.out, by first | exact HB5.out | simpa using HB5.out, by first | exact HB5.out.size | simpa using HB5.out.size, HADD2.out, by have := HCL.out; simp; omega⟩
        · have h6' : (tk.kind == 6) = false := by simpa using h6
          have h6n : (tk.kind != 6) = true := by simpa using h6
          have HADD2 := Lib.hid (show addL cs0 t.kids = addL cs (t.kids.drop (k + 1)) by rw [HADD.out, HDR.out, addL_cons, h6']; rfl)
          obtain ⟨kk, kt, kn, kp, kks⟩ := tk
          have h6k : (kk != 6) = true := h6n
          have HS2 := Lib.hid (HSTR.out.alloc (.cells [.int .i64 kk, .string kt, .int .i64 kn, .int .i64 kp, u].toArray 25))
          have HB2 := Lib.hid (HBR.out.alloc (by have := HBW.out; omega) (.cells [.int .i64 kk, .string kt, .int .i64 kn, .int .i64 kp, u].toArray 25))
          go_wp2_with (first
            | ((with_reducible refine at_ld 25 (.tmp 15) ?_); refine wpList_load_mid rfl 25 (.tmp 15) rfl g (k * 5) rfl [.int .i64 kk, .string kt, .int .i64 kn, .int .i64 kp, u] _ HR.out Tryd.underlying25 rfl Tryd.sizeNode ?_)
            | ((with_reducible refine at_st 25 (.tmp 7) ?_); refine wpList_store_new rfl 25 (.tmp 7) (.tmp 16) rfl [.int .i64 kk, .string kt, .int .i64 kn, .int .i64 kp, u] (old := zeroNodeCells) rfl rfl Tryd.sizeNode rfl (nodeCells_one (T.mk kk kt kn kp kks) _ HTK.out.kat.one) ?_))
          go_roundg (gk - 1)
          case measure => omega
          case rel => exact ⟨k + 1, cs, _, by omega, by omega, by go_num, HS2.out, HB2.out, HB2.out.size, HADD2.out, by omega⟩
      · have hE : addL cs0 t.kids = (cs, none) := by rw [HADD.out, List.drop_of_length_le (by omega)]; rfl
        go_wp2_with fail
        go_ret2
        rw [hE]
        exact ⟨_, rfl, HSTR.out, HBR.out⟩
end

section
open Go.RowKit Go.Maps

/- Of an instruction that neither calls nor forks. -/
set_option maxRecDepth 100000 in
set_option maxHeartbeats 2000000 in
theorem resolve_no {w : World} {L : Nat} {cs : List Cod} {libs : Nat} {op : Int} {pl : Nat} {x y an bn : ByteArray} {am bm tt : Int} {A : Option Addr} {n cap : Nat} {has : Bool}
    {i : Ins} (h1 : i.op = op) (hno : ¬ (op = 12 ∨ op = 13)) :
    Calls Tryd.prog 64 #[.pointer (some ⟨L, 0, none⟩), .agg #[.int .i64 op, .int .i64 pl, .string x, .string y, .string an, .int .i64 am, .string bn, .int .i64 bm, .slice A n cap, .int .i64 tt, .bool has]] w fun e w' => e = .returned (.int .i64 (resL cs libs i)) ∧ Below w.heap.size w w' := by
  have b1 : (op == 12) = false := by simp; omega
  have b2 : (op == 13) = false := by simp; omega
  have b3 : (op != 12) = true := by simp; omega
  have b4 : (op != 13) = true := by simp; omega
  have HR := Lib.hid (show resL cs libs i = 0 by unfold resL; rw [h1, b1, b2]; rfl)
  have HB := Lib.hid (show Below w.heap.size w (w.alloc (.cells [.int .i64 op, .int .i64 pl, .string x, .string y, .string an, .int .i64 am, .string bn, .int .i64 bm, .slice A n cap, .int .i64 tt, .bool has].toArray 43)) from (Below.refl _ _).alloc (Nat.le_refl _) _)
  clear h1 hno
  go_enter Tryd.func64, Tryd.ntmps64
  go_wp2_with fail
  go_ret
  refine ⟨?_, HB.out⟩
  rw [HR.out]
  rfl

def YOk (is : List Ins) : Prop := ∀ i ∈ is, (i.op = 12 ∨ i.op = 13) → i.y.size ≤ maxLen
theorem resolve_all {w : World} {B L M : Nat} {cs : List Cod} {libs : Nat} {v : Value} (h : LkSt w B L M cs libs v) {i : Ins} (hy : (i.op = 12 ∨ i.op = 13) → i.y.size ≤ maxLen) {A : Option Addr} {cap : Nat} :
    Calls Tryd.prog 64 #[.pointer (some ⟨L, 0, none⟩), .agg #[.int .i64 i.op, .int .i64 i.place, .string i.x, .string i.y, .string i.a.name, .int .i64 i.a.num, .string i.b.name, .int .i64 i.b.num, .slice A i.args.length cap, .int .i64 i.to, .bool i.has]] w fun e w' => e = .returned (.int .i64 (resL cs libs i)) ∧ Below w.heap.size w w' := by
  by_cases hc : i.op = 12 ∨ i.op = 13
  · exact resolve_any h (hy hc) rfl rfl rfl
  · exact resolve_no rfl hc

theorem ArgsAt.len {w : World} {ts : List Tm} {S : Nat → Prop} {v : Value} (h : ArgsAt w ts S v) : ∃ a c, v = .slice a ts.length c := by
  rcases h.1.2 with ⟨rfl, h0⟩ | ⟨g, cap, _, rfl, _⟩
  · exact ⟨_, _, by rw [h0]⟩
  · exact ⟨_, _, rfl⟩
theorem chkL_drop {cs : List Cod} {libs : Nat} {is : List Ins} {k : Nat} {i : Ins} (h : is[k]? = some i) : chkL cs libs (is.drop k) = bif resL cs libs i != 0 then (i.place, resL cs libs i) else chkL cs libs (is.drop (k + 1)) := by
  have hlt := (List.getElem?_eq_some_iff.1 h).1
  have he := (List.getElem?_eq_some_iff.1 h).2
  rw [List.drop_eq_getElem_cons hlt, he, chkL]
def ChRel (w : World) (cs : List Cod) (libs : Nat) (is : List Ins) (g : Nat) (i : Value) (wr : World) : Prop :=
  ∃ k : Nat, k ≤ is.length ∧ is.length ≤ k + g ∧ i = .int .i64 k ∧ Below w.heap.size w wr ∧ chkL cs libs is = chkL cs libs (is.drop k)

set_option maxRecDepth 100000 in
set_option maxHeartbeats 1000000 in
theorem check_any {w : World} {B L M : Nat} {cs : List Cod} {libs : Nat} {v : Value} (h : LkSt w B L M cs libs v) {nm : ByteArray} {pv lv : Value} {is : List Ins} {S : Nat → Prop} (hI : InsAt w is S lv) (hy : YOk is) :
    Calls Tryd.prog 43 #[.pointer (some ⟨L, 0, none⟩), .agg #[.string nm, pv, lv]] w fun e w' => e = .returned (.tuple #[.int .i64 ((chkL cs libs is).1 : Int), .int .i64 (chkL cs libs is).2]) ∧ Below w.heap.size w w' := by
  have HY := Lib.hid hy
  have H := Lib.hid h
  have HB := Lib.hid (show Below w.heap.size w (w.alloc (.cells [.string nm, pv, lv].toArray 55)) from (Below.refl _ _).alloc (Nat.le_refl _) _)
  have hn := hI.one
  rcases hI.form with ⟨rfl, hnil⟩ | ⟨g, cap, rfl, hg, hcap, hcm, hget⟩
  · have HN := Lib.hid hnil
    clear hI hy h hnil
    go_enter Tryd.func43, Tryd.ntmps43
    go_wp2_with fail
    refine wp_loop_rounds 1 ?_
    rw [rounds_succ]
    go_wp2_with fail
    go_ret2
    rw [HN.out]
    exact ⟨rfl, HB.out⟩
  · have HG := Lib.hid hget
    have HCAP := Lib.hid hcap
    clear hI hy h hget hcap
    unfold maxLen at hcm
    go_enter Tryd.func43, Tryd.ntmps43
    go_wp2_with fail
    go_loopg [12] is.length (fun gk i wr => ChRel w cs libs is gk i wr)
    case atStart => exact ⟨0, by omega, by omega, rfl, HB.out, by simp⟩
    case round =>
      obtain ⟨k, hk, hgk, rfl, hbel, hch⟩ := hrel
      have HBW := Lib.hid hbel
      have HCH := Lib.hid hch
      have hzw := hbel.size
      clear hbel hch
      by_cases hlt : k < is.length
      · obtain ⟨u, hr, hA⟩ := HG.out k is[k] (List.getElem?_eq_getElem hlt)
        have HDR := Lib.hid (chkL_drop (cs := cs) (libs := libs) (List.getElem?_eq_getElem hlt))
        have HYI := Lib.hid (HY.out is[k] (List.getElem_mem hlt))
        generalize is[k] = ij at hr hA HDR HYI
        obtain ⟨ua, uc, rfl⟩ := hA.len
        have HR := Lib.hid (show wr.rangeAt g (k * 11) [.int .i64 ij.op, .int .i64 ij.place, .string ij.x, .string ij.y, .string ij.a.name, .int .i64 ij.a.num, .string ij.b.name, .int .i64 ij.b.num, .slice ua ij.args.length uc, .int .i64 ij.to, .bool ij.has] from rangeAt_below hr HBW.out hg)
        have hcap := HCAP.out
        have HSW := Lib.hid ((H.out.below HBW.out).alloc (.cells [.int .i64 ij.op, .int .i64 ij.place, .string ij.x, .string ij.y, .string ij.a.name, .int .i64 ij.a.num, .string ij.b.name, .int .i64 ij.b.num, .slice ua ij.args.length uc, .int .i64 ij.to, .bool ij.has].toArray 43))
        have HBN := Lib.hid (HBW.out.alloc hzw (.cells [.int .i64 ij.op, .int .i64 ij.place, .string ij.x, .string ij.y, .string ij.a.name, .int .i64 ij.a.num, .string ij.b.name, .int .i64 ij.b.num, .slice ua ij.args.length uc, .int .i64 ij.to, .bool ij.has].toArray 43))
        have HBK := Lib.hid (Blk.new wr [.int .i64 ij.op, .int .i64 ij.place, .string ij.x, .string ij.y, .string ij.a.name, .int .i64 ij.a.num, .string ij.b.name, .int .i64 ij.b.num, .slice ua ij.args.length uc, .int .i64 ij.to, .bool ij.has] 43)
        clear hr hA
        go_wp2_with (first
          | ((with_reducible refine at_ld 43 (.tmp 14) ?_); refine wpList_load_mid rfl 43 (.tmp 14) rfl g (k * 11) rfl [.int .i64 ij.op, .int .i64 ij.place, .string ij.x, .string ij.y, .string ij.a.name, .int .i64 ij.a.num, .string ij.b.name, .int .i64 ij.b.num, .slice ua ij.args.length uc, .int .i64 ij.to, .bool ij.has] _ HR.out Tryd.underlying43 rfl Tryd.sizeInstr ?_)
          | ((with_reducible refine at_st 43 (.tmp 7) ?_); refine wpList_store_new rfl 43 (.tmp 7) (.tmp 15) rfl [.int .i64 ij.op, .int .i64 ij.place, .string ij.x, .string ij.y, .string ij.a.name, .int .i64 ij.a.num, .string ij.b.name, .int .i64 ij.b.num, .slice ua ij.args.length uc, .int .i64 ij.to, .bool ij.has] (old := insCells ins0 (.slice none 0 0)) rfl rfl Tryd.sizeInstr rfl (insCells_one ij _ rfl) ?_)
          | ((with_reducible refine at_ld 43 (.tmp 7) ?_); refine wpList_load_blk rfl 43 (.tmp 7) rfl wr.heap.size [.int .i64 ij.op, .int .i64 ij.place, .string ij.x, .string ij.y, .string ij.a.name, .int .i64 ij.a.num, .string ij.b.name, .int .i64 ij.b.num, .slice ua ij.args.length uc, .int .i64 ij.to, .bool ij.has] rfl HBK.out Tryd.underlying43 rfl Tryd.sizeInstr ?_))
        refine (resolve_all HSW.out HYI.out).mono ?_
        rintro e w1 ⟨rfl, hb1⟩
        have HB1 := Lib.hid (HBN.out.trans (hb1.mono (by simp; omega)))
        have n1 : w1.cell? ⟨wr.heap.size, 1, none⟩ = some (.int .i64 ij.place) := (HBK.out.stays hb1).cell 1
        clear hb1
        have HDR2 := Lib.hid HDR.out
        generalize resL cs libs ij = r at *
        by_cases hr0 : r = 0
        · subst hr0
          go_wp2_with fail
          go_roundg (gk - 1)
          case measure => omega
          case rel => exact ⟨k + 1, by omega, by omega, by go_num, HB1.out, by rw [HCH.out, HDR.out]; rfl⟩
        · have hr1 : (r != 0) = true := by simpa using hr0
          go_wp2_with fail
          go_ret2
          exact ⟨by rw [HCH.out, HDR.out, hr1]; rfl, HB1.out⟩
      · have hE : chkL cs libs is = (0, 0) := by rw [HCH.out, List.drop_of_length_le (by omega)]; rfl
        go_wp2_with fail
        go_ret2
        rw [hE]
        exact ⟨rfl, HBW.out⟩
end

section
open Go.RowKit Go.Maps

theorem Tryd.sizeImage : (Tryd.prog.info? 60).map (·.size) = some 3 := by kernel_rfl
theorem ret_blk4 {P : Program} {fn : Func} {s u z q : Tmp} {ty t : TypeId} (h : fn.results = #[.cell s ty, .tmp u, .tmp z, .tmp q]) {a : Act} {W : World} {g : Nat} {cs : List Value} {d : TypeDesc} {R : Ending → World → Prop} {x y r : Value} (hs : a.tmps.getD s undef = .pointer (some ⟨g, 0, none⟩))
    (hb : Blk W g cs t) (hu : P.underlying ty = some d) (hd : d.isRow = true) (hi : (P.info? ty).map (·.size) = some cs.length) (hx : a.tmps.getD u undef = x) (hy : a.tmps.getD z undef = y) (hq : a.tmps.getD q undef = r) (hdf : a.defers = []) (hR : R (.returned (.tuple #[.agg cs.toArray, x, y, r])) W) :
    bodyPost P fn R .ret a W := by
  refine bodyPost_ret ?_ hdf hR
  have hl := run_loadVar_mid (P := P) W g 0 ty cs d (fun j v hj => by rw [Nat.zero_add, hb.cell j]; exact hj) hu hd hi
  have hs' : a.tmps[s]?.getD undef = .pointer (some ⟨g, 0, none⟩) := by rw [← hs]; simp
  have hx' : a.tmps[u]?.getD undef = x := by rw [← hx]; simp
  have hy' : a.tmps[z]?.getD undef = y := by rw [← hy]; simp
  have hq' : a.tmps[q]?.getD undef = r := by rw [← hq]; simp
  simp [results, h, hs', asAddr, hl, hx', hy', hq']

def imgCells (v : Value) (libs main : Nat) : List Value := [v, .int .i64 libs, .int .i64 main]
def LinkPost (w : World) (r : Img × Nat × Bool × Int) (e : Ending) (w' : World) : Prop :=
  ∃ v, e = .returned (.tuple #[.agg (imgCells v r.1.libs r.1.main).toArray, .int .i64 (r.2.1 : Int), .bool r.2.2.1, .int .i64 r.2.2.2]) ∧ CodsAt w' r.1.codes (fun b => w.heap.size ≤ b) v ∧ Below w.heap.size w w'

structure LiSt (w : World) (na nb ic : List Value) (cs : List Cod) (libs : Nat) (v : Value) (W : World) : Prop where
  a : Blk W w.heap.size na 25
  b : Blk W (w.heap.size + 1) nb 25
  r : Blk W (w.heap.size + 1 + 1) ic 60
  s : LkSt W (w.heap.size + 1 + 1 + 1) (w.heap.size + 1 + 1 + 1 + 1) (w.heap.size + 1 + 1 + 1) cs libs v
  k : Below w.heap.size w W
section
variable {w W W' : World} {na nb ic : List Value} {cs cs' : List Cod} {libs : Nat} {v v' : Value}
theorem LiSt.call (h : LiSt w na nb ic cs libs v W) (hb : Below (w.heap.size + 1 + 1 + 1) W W') (hs : LkSt W' (w.heap.size + 1 + 1 + 1) (w.heap.size + 1 + 1 + 1 + 1) (w.heap.size + 1 + 1 + 1) cs' libs v') : LiSt w na nb ic cs' libs v' W' :=
  ⟨(hb.block _ (by omega)).trans h.a, (hb.block _ (by omega)).trans h.b, (hb.block _ (by omega)).trans h.r, hs, h.k.trans (hb.mono (by omega))⟩
theorem LiSt.below (h : LiSt w na nb ic cs libs v W) (hb : Below W.heap.size W W') : LiSt w na nb ic cs libs v W' :=
  h.call (hb.mono (by have := h.s.l.lt; omega)) (h.s.below hb)
theorem LiSt.alloc (h : LiSt w na nb ic cs libs v W) (o : Obj) : LiSt w na nb ic cs libs v (W.alloc o) := h.below ((Below.refl _ _).alloc (Nat.le_refl _) _)
theorem LiSt.drew (h : LiSt w na nb ic cs libs v W) : LiSt w na nb ic cs libs v W.drew := h.below (Below.refl _ _).drew
/- How many are of the libraries is told. -/
theorem LiSt.told (h : LiSt w na nb ic cs libs v W) (n : Nat) : LiSt w na nb ic cs n v (W.setCell ⟨w.heap.size + 1 + 1 + 1 + 1, 1, none⟩ (.int .i64 n)) := by
  refine ⟨h.a.setOther _ _ (by show w.heap.size ≠ w.heap.size + 1 + 1 + 1 + 1; omega), h.b.setOther _ _ (by show w.heap.size + 1 ≠ w.heap.size + 1 + 1 + 1 + 1; omega), h.r.setOther _ _ (by show w.heap.size + 1 + 1 ≠ w.heap.size + 1 + 1 + 1 + 1; omega), ⟨h.s.l.setSame 1 _, ?_, h.s.m.same (Below.heap_setCell _ _ _ _ (by show w.heap.size + 1 + 1 + 1 ≠ w.heap.size + 1 + 1 + 1 + 1; omega)), h.s.lo, h.s.ne⟩, h.k.setCell (by show w.heap.size ≤ w.heap.size + 1 + 1 + 1 + 1; omega) _⟩
  exact h.s.c.keep fun b hb _ => ⟨hb, Below.heap_setCell _ _ _ _ hb.2.1⟩
end
theorem LiSt.new (w : World) (na nb ic : List Value) : LiSt w na nb ic [] 0 (.slice none 0 0) (((((w.alloc (.cells na.toArray 25)).alloc (.cells nb.toArray 25)).alloc (.cells ic.toArray 60)).alloc (.map #[] 0)).alloc (.cells (lkCells (.slice none 0 0) 0 (w.heap.size + 1 + 1 + 1)).toArray 98)) := by
  have e1 : (w.alloc (.cells na.toArray 25)).heap.size = w.heap.size + 1 := by simp
  have e2 : ((w.alloc (.cells na.toArray 25)).alloc (.cells nb.toArray 25)).heap.size = w.heap.size + 1 + 1 := by simp
  have e3 : (((w.alloc (.cells na.toArray 25)).alloc (.cells nb.toArray 25)).alloc (.cells ic.toArray 60)).heap.size = w.heap.size + 1 + 1 + 1 := by simp
  have e4 : ((((w.alloc (.cells na.toArray 25)).alloc (.cells nb.toArray 25)).alloc (.cells ic.toArray 60)).alloc (.map #[] 0)).heap.size = w.heap.size + 1 + 1 + 1 + 1 := by simp
  refine ⟨((((Blk.new w _ _).alloc _).alloc _).alloc _).alloc _, ?_, ?_, ⟨?_, CodsAt.nil _ _, ?_, ⟨by omega, by omega⟩, by omega⟩, ?_⟩
  · have h := Blk.new (w.alloc (.cells na.toArray 25)) nb 25
    rw [e1] at h
    exact ((h.alloc _).alloc _).alloc _
  · have h := Blk.new ((w.alloc (.cells na.toArray 25)).alloc (.cells nb.toArray 25)) ic 60
    rw [e2] at h
    exact (h.alloc _).alloc _
  · have h := Blk.new ((((w.alloc (.cells na.toArray 25)).alloc (.cells nb.toArray 25)).alloc (.cells ic.toArray 60)).alloc (.map #[] 0)) (lkCells (.slice none 0 0) 0 (w.heap.size + 1 + 1 + 1)) 98
    rw [e4] at h
    exact h
  · have h := World.ownsMap_made (H := Unit) (((w.alloc (.cells na.toArray 25)).alloc (.cells nb.toArray 25)).alloc (.cells ic.toArray 60)) Tryd.prog 9 (plainElem Tryd.prog 3)
    rw [e3] at h
    exact ⟨0, _, h.alloc _, by simp, ⟨[], rfl⟩, fun s => ⟨rfl, fun k hk => by simp [findN] at hk⟩⟩
  · exact (((((Below.refl _ _).alloc (Nat.le_refl _) _).alloc (by simp) _).alloc (by simp; omega) _).alloc (by simp; omega) _).alloc (by simp; omega) _

/- WALK -/
set_option maxRecDepth 100000 in
set_option maxHeartbeats 2000000 in
theorem link_any {w : World} {a b : T} {av bv : Value} {Sa Sb : Nat → Prop} (ha : KAt 25 w a.kids Sa av) (hb : KAt 25 w b.kids Sb bv) (hwa : a.whole) (hwb : b.whole) (hsa : a.size ≤ 4990) (hsb : b.size ≤ 4990)
    (hna : NamesOk a.kids) (hnb : NamesOk b.kids) (hya : ∀ t ∈ a.kids, YOk (lowerI t).list) (hyb : ∀ t ∈ b.kids, YOk (lowerI t).list) :
    Calls Tryd.prog 26 #[NodeV a av, NodeV b bv] w (LinkPost w (linkL a b)) := by
  have hmm := @run_makeMap Tryd.prog
  unfold NodeV
  obtain ⟨W1, hW1, HL1⟩ : ∃ W1, (((((w.alloc (.cells (nodeCells a av).toArray 25)).alloc (.cells (nodeCells b bv).toArray 25)).alloc (.cells (imgCells (.slice none 0 0) 0 0).toArray 60)).alloc (.map #[] 0)).alloc (.cells (lkCells (.slice none 0 0) 0 (w.heap.size + 1 + 1 + 1)).toArray 98)) = W1 ∧ Hid (LiSt w (nodeCells a av) (nodeCells b bv) (imgCells (.slice none 0 0) 0 0) [] 0 (.slice none 0 0) W1) := ⟨_, rfl, Lib.hid (LiSt.new _ _ _ _)⟩
  have HA := Lib.hid ha
  have HBK := Lib.hid hb
  have HP := Lib.hid (And.intro (And.intro hwa hsa) (And.intro hna hya))
  have HQ := Lib.hid (And.intro (And.intro hwb hsb) (And.intro hnb hyb))
  have HLA := Lib.hid (show a.kids.length ≤ 4990 from by have h1 := len_sizes a.kids; have h2 : a.size = 1 + sizes a.kids := by cases a; rw [size_mk]; rfl
                                                         omega)
  have HLB := Lib.hid (show b.kids.length ≤ 4990 from by have h1 := len_sizes b.kids; have h2 : b.size = 1 + sizes b.kids := by cases b; rw [size_mk]; rfl
                                                         omega)
  clear ha hb hwa hwb hsa hsb hna hnb hya hyb
  go_enter Tryd.func26, Tryd.ntmps26
  go_wp2_with ((with_reducible refine at_ld 25 (.tmp 2) ?_); refine wpList_load_blk rfl 25 (.tmp 2) rfl w.heap.size (nodeCells a av) rfl (by rw [hW1]; exact HL1.out.a) Tryd.underlying25 rfl Tryd.sizeNode ?_)
  refine calls_at W1 hW1 ?_
  clear hW1 hmm
  refine (add_any HL1.out.s (t := a) (kv := av) (KAt.keep HA.out fun b _ hl => ⟨by omega, HL1.out.k.block b hl⟩) HP.out.1.1 HP.out.1.2 HP.out.2.1 (by simp)).mono ?_
  rintro e w2 ⟨v1, rfl, hs2, hb2⟩
  have HL2 := Lib.hid (HL1.out.call hb2 hs2)
  have hlen1 := addL_length a.kids []
  clear hs2 hb2 HL1
  cases hq1 : addL [] a.kids with
  | mk cs r1 =>
    rw [hq1] at HL2 hlen1
    cases r1 with
    | some p =>
      have HX := Lib.hid (show linkL a b = (img0, p, false, 30) by unfold linkL; rw [hq1])
      go_wp2_with ((with_reducible refine at_st 60 (.tmp 4) ?_); refine wpList_store_blk rfl 60 (.tmp 4) (.tmp 30) rfl (w.heap.size + 1 + 1) (imgCells (.slice none 0 0) 0 0) rfl rfl HL2.out.r Tryd.sizeImage rfl (by intro x hx; simp only [imgCells, List.mem_cons, List.not_mem_nil, or_false] at hx; rcases hx with rfl | rfl | rfl <;> rfl) ?_)
      refine ret_blk4 (cs := (imgCells (.slice none 0 0) 0 0)) Tryd.results26 rfl (HL2.out.r.rowSame _) Tryd.underlying60 rfl Tryd.sizeImage rfl rfl rfl rfl ?_
      rw [HX.out]
      exact ⟨_, rfl, CodsAt.nil _ _, Below.row HL2.out.k (by omega) _⟩
    | none =>
      have HF1 := Lib.hid (addL_none _ _ _ hq1)
      obtain ⟨va1, vc1, rfl⟩ := HL2.out.s.c.slice
      have l0 : w2.cell? ⟨w.heap.size + 1 + 1 + 1 + 1, 0, none⟩ = some (.slice va1 cs.length vc1) := HL2.out.s.l.cell 0
      have l1 : w2.cell? ⟨w.heap.size + 1 + 1 + 1 + 1, 1, none⟩ = some (.int .i64 0) := HL2.out.s.l.cell 1
      have lf := HL2.out.s.l.frozen 1
      obtain ⟨W3, hW3, HL3⟩ : ∃ W3, w2.setCell ⟨w.heap.size + 1 + 1 + 1 + 1, 1, none⟩ (.int .i64 (cs.length : Int)) = W3 ∧ Hid (LiSt w (nodeCells a av) (nodeCells b bv) (imgCells (.slice none 0 0) 0 0) cs cs.length (.slice va1 cs.length vc1) W3) := ⟨_, rfl, Lib.hid (HL2.out.told cs.length)⟩
      go_wp2_with ((with_reducible refine at_ld 25 (.tmp 3) ?_); refine wpList_load_blk rfl 25 (.tmp 3) rfl (w.heap.size + 1) (nodeCells b bv) rfl (by first | exact HL3.out.b | (rw [hW3]; exact HL3.out.b)) Tryd.underlying25 rfl Tryd.sizeNode ?_)
      first | refine calls_at W3 hW3 ?_ | skip
      clear hW3 l0 l1 lf HL2
      refine (add_any HL3.out.s (t := b) (kv := bv) (KAt.keep HBK.out fun b _ hl => ⟨by omega, HL3.out.k.block b hl⟩) HQ.out.1.1 HQ.out.1.2 HQ.out.2.1 (by have := HLA.out; simp at hlen1; omega)).mono ?_
      rintro e w4 ⟨v2, rfl, hs4, hb4⟩
      have HL4 := Lib.hid (HL3.out.call hb4 hs4)
      clear hs4 hb4 HL3
      have hlen2 := addL_length b.kids cs
      cases hq2 : addL cs b.kids with
      | mk ds r2 =>
        rw [hq2] at HL4 hlen2
        cases r2 with
        | some p =>
          have HX := Lib.hid (show linkL a b = (img0, p, true, 30) by unfold linkL; rw [hq1]; simp only; rw [hq2])
          go_wp2_with ((with_reducible refine at_st 60 (.tmp 4) ?_); refine wpList_store_blk rfl 60 (.tmp 4) (.tmp 49) rfl (w.heap.size + 1 + 1) (imgCells (.slice none 0 0) 0 0) rfl rfl HL4.out.r Tryd.sizeImage rfl (by intro x hx; simp only [imgCells, List.mem_cons, List.not_mem_nil, or_false] at hx; rcases hx with rfl | rfl | rfl <;> rfl) ?_)
          refine ret_blk4 (cs := (imgCells (.slice none 0 0) 0 0)) Tryd.results26 rfl (HL4.out.r.rowSame _) Tryd.underlying60 rfl Tryd.sizeImage rfl rfl rfl rfl ?_
          rw [HX.out]
          exact ⟨_, rfl, CodsAt.nil _ _, Below.row HL4.out.k (by omega) _⟩
        | none =>
          have HF2 := Lib.hid (addL_none _ _ _ hq2)
          have HYD := Lib.hid (show ∀ c ∈ ds, YOk c.list from by
            intro c hc
            rw [HF2.out, HF1.out, List.nil_append, List.mem_append] at hc
            rcases hc with hc | hc
            · obtain ⟨t, ht, rfl⟩ := List.mem_map.1 hc
              exact HP.out.2.2 t (List.mem_filter.1 ht).1
            · obtain ⟨t, ht, rfl⟩ := List.mem_map.1 hc
              exact HQ.out.2.2 t (List.mem_filter.1 ht).1)
          obtain ⟨va, vc, rfl⟩ := HL4.out.s.c.slice
          have l0 : w4.cell? ⟨w.heap.size + 1 + 1 + 1 + 1, 0, none⟩ = some (.slice va ds.length vc) := HL4.out.s.l.cell 0
          rcases HL4.out.s.c.form with ⟨hv0, hnil⟩ | ⟨g, cap, hv0, hg, hcap, hcm, hget⟩
          · have hnil : ds = [] := hnil
            have hn0 : ds.length = 0 := by rw [hnil]; rfl
            have HALL := Lib.hid (show ((allL ds cs.length 0 ds).2.2 != 0) = false by rw [hnil]; rfl)
            go_wp2_with fail
            refine wp_loop_rounds 1 ?_
            rw [rounds_succ]
            go_wp2_with fail
            refine (lmain_any HL4.out.s).mono ?_
            rintro e w9 ⟨rfl, rfl⟩
            have HX := Lib.hid (show linkL a b = match mainL ds cs.length with | none => (img0, 0, true, 55) | some m => (⟨ds, cs.length, m⟩, 0, false, 0) by unfold linkL; rw [hq1]; simp only; rw [hq2]; simp only; rw [HALL.out]; rfl)
            cases hm : mainL ds cs.length with
            | none =>
              rw [hm] at HX
              go_wp2_with ((with_reducible refine at_st 60 (.tmp 4) ?_); refine wpList_store_blk rfl 60 (.tmp 4) (.tmp 87) rfl (w.heap.size + 1 + 1) (imgCells (.slice none 0 0) 0 0) rfl rfl HL4.out.r Tryd.sizeImage rfl (by intro x hx; simp only [imgCells, List.mem_cons, List.not_mem_nil, or_false] at hx; rcases hx with rfl | rfl | rfl <;> rfl) ?_)
              refine ret_blk4 (cs := (imgCells (.slice none 0 0) 0 0)) Tryd.results26 rfl (HL4.out.r.rowSame _) Tryd.underlying60 rfl Tryd.sizeImage rfl rfl rfl rfl ?_
              rw [HX.out]
              exact ⟨_, rfl, CodsAt.nil _ _, Below.row HL4.out.k (by omega) _⟩
            | some m =>
              rw [hm] at HX
              go_wp2_with fail
              refine wp_region_held_drew (S := fun W => Blk W (w.heap.size + 1 + 1 + 1 + 1) (lkCells (.slice va ds.length vc) cs.length (w.heap.size + 1 + 1 + 1)) 98) (by kernel_rfl) HL4.out.drew.s.l (fun hS => ?_)
              refine wpAnyH_take (i := 0) (oi := ⟨some 88, _, _, _, _, _⟩) (v := .pointer (some ⟨w.heap.size + 1 + 1 + 1 + 1, 0, none⟩)) rfl (by kernel_rfl) (by kernel_rfl) (by kernel_rfl) (fun _ _ _ h => h) (Or.inl ⟨by rfl, fun W _ => by go_simp⟩) hS ?_
              try simp only [Act.put, List.setIfInBounds_toArray, List.set_cons_zero, List.set_cons_succ]
              refine wpAnyH_take (i := 1) (oi := ⟨some 89, _, _, _, _, _⟩) (v := .pointer (some ⟨w.heap.size + 1 + 1 + 1 + 1, 0, none⟩)) rfl (by kernel_rfl) (by kernel_rfl) (by kernel_rfl) (fun _ _ _ h => h) (Or.inl ⟨by rfl, fun W _ => by go_simp⟩) hS ?_
              try simp only [Act.put, List.setIfInBounds_toArray, List.set_cons_zero, List.set_cons_succ]
              refine wpAnyH_take (i := 2) (oi := ⟨some 90, _, _, _, _, _⟩) (v := .pointer (some ⟨w.heap.size + 1 + 1 + 1 + 1, 0, none⟩)) rfl (by kernel_rfl) (by kernel_rfl) (by kernel_rfl) (fun _ _ _ h => h) (Or.inl ⟨by rfl, fun W _ => by go_simp⟩) hS ?_
              try simp only [Act.put, List.setIfInBounds_toArray, List.set_cons_zero, List.set_cons_succ]
              refine wpAnyH_take (i := 3) (oi := ⟨some 91, _, _, _, _, _⟩) (v := .slice va ds.length vc) rfl (by kernel_rfl) (by kernel_rfl) (by kernel_rfl) (fun _ _ _ h => h) (Or.inl ⟨by rfl, fun W hW => by have hcx : W.cell? ⟨(w.heap.size + 1 + 1 + 1 + 1), 0, none⟩ = some (.slice va ds.length vc) := (hW).cell 0; go_simp⟩) hS ?_
              try simp only [Act.put, List.setIfInBounds_toArray, List.set_cons_zero, List.set_cons_succ]
              refine wpAnyH_take (i := 4) (oi := ⟨some 92, _, _, _, _, _⟩) (v := .pointer (some ⟨w.heap.size + 1 + 1 + 1 + 1, 0, none⟩)) rfl (by kernel_rfl) (by kernel_rfl) (by kernel_rfl) (fun _ _ _ h => h) (Or.inl ⟨by rfl, fun W _ => by go_simp⟩) hS ?_
              try simp only [Act.put, List.setIfInBounds_toArray, List.set_cons_zero, List.set_cons_succ]
              refine wpAnyH_take (i := 5) (oi := ⟨some 93, _, _, _, _, _⟩) (v := .pointer (some ⟨w.heap.size + 1 + 1 + 1 + 1, 0, none⟩)) rfl (by kernel_rfl) (by kernel_rfl) (by kernel_rfl) (fun _ _ _ h => h) (Or.inl ⟨by rfl, fun W _ => by go_simp⟩) hS ?_
              try simp only [Act.put, List.setIfInBounds_toArray, List.set_cons_zero, List.set_cons_succ]
              refine wpAnyH_take (i := 6) (oi := ⟨some 94, _, _, _, _, _⟩) (v := .pointer (some ⟨w.heap.size + 1 + 1 + 1 + 1, 1, none⟩)) rfl (by kernel_rfl) (by kernel_rfl) (by kernel_rfl) (fun _ _ _ h => h) (Or.inl ⟨by rfl, fun W _ => by go_simp⟩) hS ?_
              try simp only [Act.put, List.setIfInBounds_toArray, List.set_cons_zero, List.set_cons_succ]
              refine wpAnyH_take (i := 7) (oi := ⟨some 95, _, _, _, _, _⟩) (v := .int .i64 (cs.length : Int)) rfl (by kernel_rfl) (by kernel_rfl) (by kernel_rfl) (fun _ _ _ h => h) (Or.inl ⟨by rfl, fun W hW => by have hcx : W.cell? ⟨(w.heap.size + 1 + 1 + 1 + 1), 1, none⟩ = some (.int .i64 (cs.length : Int)) := (hW).cell 1; go_simp⟩) hS ?_
              try simp only [Act.put, List.setIfInBounds_toArray, List.set_cons_zero, List.set_cons_succ]
              refine wpAnyH_take (i := 8) (oi := ⟨some 96, _, _, _, _, _⟩) (v := .int .i64 (m : Int)) rfl (by kernel_rfl) (by kernel_rfl) (by kernel_rfl) (fun _ _ _ h => h) (Or.inl ⟨by rfl, fun W _ => by go_simp⟩) hS ?_
              try simp only [Act.put, List.setIfInBounds_toArray, List.set_cons_zero, List.set_cons_succ]
              refine wpAnyH_take (i := 9) (oi := ⟨some 97, _, _, _, _, _⟩) (v := .agg #[.slice va ds.length vc, .int .i64 (cs.length : Int), .int .i64 (m : Int)]) rfl (by kernel_rfl) (by kernel_rfl) (by kernel_rfl) (fun _ _ _ h => h) (Or.inl ⟨by rfl, fun W _ => by go_simp⟩) hS ?_
              try simp only [Act.put, List.setIfInBounds_toArray, List.set_cons_zero, List.set_cons_succ]
              refine AnyH.only (i := 10) (o := ⟨none, _, _, _, _, _⟩) (by kernel_rfl) rfl (by rfl) (fun K hK => ?_)
              refine wp_store_blk 60 (.tmp 4) (.tmp 97) rfl (w.heap.size + 1 + 1) (imgCells (.slice va ds.length vc) cs.length m) rfl rfl HL4.out.drew.r Tryd.sizeImage rfl (by intro x hx; simp only [imgCells, List.mem_cons, List.not_mem_nil, or_false] at hx; rcases hx with rfl | rfl | rfl <;> rfl) ?_
              have hS1 := hS.rowOther (w.heap.size + 1 + 1) (imgCells (.slice va ds.length vc) cs.length m).toArray (by omega)
              clear hS
              have hS := hS1
              clear hS1
              refine hK.out _ _ hS ?_
              clear hK K
              try simp only [Act.put]
              refine wpAnyH_take (i := 11) (oi := ⟨some 5, _, _, _, _, _⟩) (v := .int .i64 0) rfl (by kernel_rfl) (by kernel_rfl) (by kernel_rfl) (fun _ _ _ h => h) (Or.inl ⟨by rfl, fun W _ => by go_simp⟩) hS ?_
              try simp only [Act.put, List.setIfInBounds_toArray, List.set_cons_zero, List.set_cons_succ]
              refine wpAnyH_take (i := 12) (oi := ⟨some 6, _, _, _, _, _⟩) (v := .bool false) rfl (by kernel_rfl) (by kernel_rfl) (by kernel_rfl) (fun _ _ _ h => h) (Or.inl ⟨by rfl, fun W _ => by go_simp⟩) hS ?_
              try simp only [Act.put, List.setIfInBounds_toArray, List.set_cons_zero, List.set_cons_succ]
              refine wpAnyH_take (i := 13) (oi := ⟨some 7, _, _, _, _, _⟩) (v := .int .i64 0) rfl (by kernel_rfl) (by kernel_rfl) (by kernel_rfl) (fun _ _ _ h => h) (Or.inl ⟨by rfl, fun W _ => by go_simp⟩) hS ?_
              try simp only [Act.put, List.setIfInBounds_toArray, List.set_cons_zero, List.set_cons_succ]
              refine wpAnyH_done (by kernel_rfl) ?_ _
              clear hS
              go_wp2_with fail
              refine ret_blk4 (cs := imgCells (.slice va ds.length vc) cs.length m) Tryd.results26 rfl (HL4.out.drew.r.rowSame _) Tryd.underlying60 rfl Tryd.sizeImage rfl rfl rfl rfl ?_
              rw [HX.out]
              exact ⟨_, rfl, HL4.out.drew.s.c.keep fun b hb hl => ⟨by have := hb.1; omega, setRow_other _ _ _ _ (by have := hb.1; omega)⟩, Below.row HL4.out.drew.k (by omega) _⟩
          · obtain ⟨rfl, _, rfl⟩ : va = some ⟨g, 0, none⟩ ∧ True ∧ vc = cap := by simpa using hv0
            have HGET := Lib.hid hget
            have HCAP := Lib.hid hcap
            have HLD := Lib.hid (show ds.length ≤ 9990 from by have := HLA.out; have := HLB.out; simp at hlen1; simp at hlen2; omega)
            have hg4 := hg.2
            clear hv0 hget hcap hlen1 hlen2 hg
            unfold maxLen at hcm
            go_wp2_with fail
            go_loopg [57] ds.length (fun gk i wr => ∃ k : Nat, k ≤ ds.length ∧ ds.length ≤ k + gk ∧ i = .int .i64 k ∧ LiSt w (nodeCells a av) (nodeCells b bv) (imgCells (.slice none 0 0) 0 0) ds cs.length (.slice (some ⟨g, 0, none⟩) ds.length vc) wr ∧ Below w4.heap.size w4 wr ∧ allL ds cs.length 0 ds = allL ds cs.length k (ds.drop k))
            case atStart => exact ⟨0, by omega, by omega, rfl, HL4.out, Below.refl _ _, by simp⟩
            case round =>
              obtain ⟨k, hk, hgk, rfl, hli, hbel, hall⟩ := hrel
              have HLI := Lib.hid hli
              have HBE := Lib.hid hbel
              have HALL0 := Lib.hid hall
              have hzw := hbel.size
              clear hli hbel hall
              by_cases hlt : k < ds.length
              · obtain ⟨pv, lv, hr, hca⟩ := HGET.out k ds[k] (List.getElem?_eq_getElem hlt)
                have HYC := Lib.hid (HYD.out ds[k] (List.getElem_mem hlt))
                have HDR := Lib.hid (show ds.drop k = ds[k] :: ds.drop (k + 1) from List.drop_eq_getElem_cons hlt)
                generalize ds[k] = cd at hr hca HYC HDR
                have HALL1 := Lib.hid (show allL ds cs.length 0 ds = bif (chkL ds cs.length cd.list).2 != 0 then ((chkL ds cs.length cd.list).1, decide (cs.length ≤ k), (chkL ds cs.length cd.list).2) else allL ds cs.length (k + 1) (ds.drop (k + 1)) by rw [HALL0.out, HDR.out, allL_cons])
                obtain ⟨pa, pc, rfl⟩ := hca.1.slice
                obtain ⟨la, lc, rfl⟩ := hca.2.slice
                have HR := Lib.hid (show wr.rangeAt g (k * 3) [.string cd.name, .slice pa cd.params.length pc, .slice la cd.list.length lc] from rangeAt_below hr HBE.out hg4)
                have HIN := Lib.hid ((hca.2.below HBE.out).alloc (.cells [.string cd.name, .slice pa cd.params.length pc, .slice la cd.list.length lc].toArray 55))
                have HLN := Lib.hid (HLI.out.alloc (.cells [.string cd.name, .slice pa cd.params.length pc, .slice la cd.list.length lc].toArray 55))
                have HBN := Lib.hid (HBE.out.alloc hzw (.cells [.string cd.name, .slice pa cd.params.length pc, .slice la cd.list.length lc].toArray 55))
                have HBC := Lib.hid (Blk.new wr [.string cd.name, .slice pa cd.params.length pc, .slice la cd.list.length lc] 55)
                have hcap := HCAP.out
                have hld := HLD.out
                clear hr hca
                go_wp2_with (first
                  | ((with_reducible refine at_ld 55 (.tmp 60) ?_); refine wpList_load_mid rfl 55 (.tmp 60) rfl g (k * 3) rfl [.string cd.name, .slice pa cd.params.length pc, .slice la cd.list.length lc] _ HR.out Tryd.underlying55 rfl Tryd.sizeCode ?_)
                  | ((with_reducible refine at_st 55 (.tmp 14) ?_); refine wpList_store_new rfl 55 (.tmp 14) (.tmp 61) rfl [.string cd.name, .slice pa cd.params.length pc, .slice la cd.list.length lc] (old := codCells cod0 (.slice none 0 0) (.slice none 0 0)) rfl rfl Tryd.sizeCode rfl (by intro x hx; simp only [List.mem_cons, List.not_mem_nil, or_false] at hx; rcases hx with rfl | rfl | rfl <;> rfl) ?_)
                  | ((with_reducible refine at_ld 55 (.tmp 14) ?_); refine wpList_load_blk rfl 55 (.tmp 14) rfl wr.heap.size [.string cd.name, .slice pa cd.params.length pc, .slice la cd.list.length lc] rfl HBC.out Tryd.underlying55 rfl Tryd.sizeCode ?_))
                refine (check_any HLN.out.s HIN.out HYC.out).mono ?_
                rintro e w5 ⟨rfl, hb5⟩
                have HL5 := Lib.hid (HLN.out.below hb5)
                have HB5 := Lib.hid (HBN.out.trans (hb5.mono (by simp; omega)))
                clear hb5
                generalize chkL ds cs.length cd.list = r at *
                obtain ⟨rp, rc⟩ := r
                by_cases hr0 : rc = 0
                · subst hr0
                  go_wp2_with fail
                  go_roundg (gk - 1)
                  case measure => omega
                  case rel => exact ⟨k + 1, by omega, by omega, by go_num, HL5.out, HB5.out, by rw [HALL1.out]; rfl⟩
                · have hr1 : (rc != 0) = true := by simpa using hr0
                  have HAL := Lib.hid (show allL ds cs.length 0 ds = (rp, decide (cs.length ≤ k), rc) by rw [HALL1.out]; show (bif rc != 0 then _ else _) = _; rw [hr1]; rfl)
                  have HX := Lib.hid (show linkL a b = (img0, rp, decide (cs.length ≤ k), rc) by unfold linkL; rw [hq1]; simp only; rw [hq2]; simp only; rw [HAL.out]; simp only [hr1]; rfl)
                  go_wp2_with fail
                  refine wp_region_held_drew (S := fun W => Blk W (w.heap.size + 1 + 1 + 1 + 1) (lkCells (.slice (some ⟨g, 0, none⟩) ds.length vc) cs.length (w.heap.size + 1 + 1 + 1)) 98) (by kernel_rfl) HL5.out.drew.s.l (fun hS => ?_)
                  refine wpAnyH_take (i := 0) (oi := ⟨some 70, _, _, _, _, _⟩) (v := .agg #[.slice none 0 0, .int .i64 0, .int .i64 0]) rfl (by kernel_rfl) (by kernel_rfl) (by kernel_rfl) (fun _ _ _ h => h) (Or.inl ⟨by rfl, fun W _ => by go_simp⟩) hS ?_
                  try simp only [Act.put, List.setIfInBounds_toArray, List.set_cons_zero, List.set_cons_succ]
                  refine wpAnyH_take (i := 1) (oi := ⟨some 71, _, _, _, _, _⟩) (v := .int .i64 (rp : Int)) rfl (by kernel_rfl) (by kernel_rfl) (by kernel_rfl) (fun _ _ _ h => h) (Or.inl ⟨by rfl, fun W _ => by go_simp⟩) hS ?_
                  try simp only [Act.put, List.setIfInBounds_toArray, List.set_cons_zero, List.set_cons_succ]
                  refine wpAnyH_take (i := 2) (oi := ⟨some 72, _, _, _, _, _⟩) (v := .int .i64 (k : Int)) rfl (by kernel_rfl) (by kernel_rfl) (by kernel_rfl) (fun _ _ _ h => h) (Or.inl ⟨by rfl, fun W _ => by go_simp⟩) hS ?_
                  try simp only [Act.put, List.setIfInBounds_toArray, List.set_cons_zero, List.set_cons_succ]
                  refine wpAnyH_take (i := 3) (oi := ⟨some 73, _, _, _, _, _⟩) (v := .pointer (some ⟨w.heap.size + 1 + 1 + 1 + 1, 0, none⟩)) rfl (by kernel_rfl) (by kernel_rfl) (by kernel_rfl) (fun _ _ _ h => h) (Or.inl ⟨by rfl, fun W _ => by go_simp⟩) hS ?_
                  try simp only [Act.put, List.setIfInBounds_toArray, List.set_cons_zero, List.set_cons_succ]
                  refine wpAnyH_take (i := 4) (oi := ⟨some 74, _, _, _, _, _⟩) (v := .pointer (some ⟨w.heap.size + 1 + 1 + 1 + 1, 0, none⟩)) rfl (by kernel_rfl) (by kernel_rfl) (by kernel_rfl) (fun _ _ _ h => h) (Or.inl ⟨by rfl, fun W _ => by go_simp⟩) hS ?_
                  try simp only [Act.put, List.setIfInBounds_toArray, List.set_cons_zero, List.set_cons_succ]
                  refine wpAnyH_take (i := 5) (oi := ⟨some 75, _, _, _, _, _⟩) (v := .pointer (some ⟨w.heap.size + 1 + 1 + 1 + 1, 1, none⟩)) rfl (by kernel_rfl) (by kernel_rfl) (by kernel_rfl) (fun _ _ _ h => h) (Or.inl ⟨by rfl, fun W _ => by go_simp⟩) hS ?_
                  try simp only [Act.put, List.setIfInBounds_toArray, List.set_cons_zero, List.set_cons_succ]
                  refine wpAnyH_take (i := 6) (oi := ⟨some 76, _, _, _, _, _⟩) (v := .int .i64 (cs.length : Int)) rfl (by kernel_rfl) (by kernel_rfl) (by kernel_rfl) (fun _ _ _ h => h) (Or.inl ⟨by rfl, fun W hW => by have hcx : W.cell? ⟨(w.heap.size + 1 + 1 + 1 + 1), 1, none⟩ = some (.int .i64 (cs.length : Int)) := (hW).cell 1; go_simp⟩) hS ?_
                  try simp only [Act.put, List.setIfInBounds_toArray, List.set_cons_zero, List.set_cons_succ]
                  refine wpAnyH_take (i := 7) (oi := ⟨some 77, _, _, _, _, _⟩) (v := .bool (decide ((k : Int) ≥ (cs.length : Int)))) rfl (by kernel_rfl) (by kernel_rfl) (by kernel_rfl) (fun _ _ _ h => h) (Or.inl ⟨by rfl, fun W _ => by go_simp⟩) hS ?_
                  try simp only [Act.put, List.setIfInBounds_toArray, List.set_cons_zero, List.set_cons_succ]
                  refine wpAnyH_take (i := 8) (oi := ⟨some 78, _, _, _, _, _⟩) (v := .int .i64 rc) rfl (by kernel_rfl) (by kernel_rfl) (by kernel_rfl) (fun _ _ _ h => h) (Or.inl ⟨by rfl, fun W _ => by go_simp⟩) hS ?_
                  try simp only [Act.put, List.setIfInBounds_toArray, List.set_cons_zero, List.set_cons_succ]
                  refine AnyH.only (i := 9) (o := ⟨none, _, _, _, _, _⟩) (by kernel_rfl) rfl (by rfl) (fun K hK => ?_)
                  refine wp_store_blk 60 (.tmp 4) (.tmp 70) rfl (w.heap.size + 1 + 1) (imgCells (.slice none 0 0) 0 0) rfl rfl HL5.out.drew.r Tryd.sizeImage rfl (by intro x hx; simp only [imgCells, List.mem_cons, List.not_mem_nil, or_false] at hx; rcases hx with rfl | rfl | rfl <;> rfl) ?_
                  have hS1 := hS.rowOther (w.heap.size + 1 + 1) (imgCells (.slice none 0 0) 0 0).toArray (by omega)
                  clear hS
                  have hS := hS1
                  clear hS1
                  refine hK.out _ _ hS ?_
                  clear hK K
                  try simp only [Act.put]
                  refine wpAnyH_take (i := 10) (oi := ⟨some 5, _, _, _, _, _⟩) (v := .int .i64 (rp : Int)) rfl (by kernel_rfl) (by kernel_rfl) (by kernel_rfl) (fun _ _ _ h => h) (Or.inl ⟨by rfl, fun W _ => by go_simp⟩) hS ?_
                  try simp only [Act.put, List.setIfInBounds_toArray, List.set_cons_zero, List.set_cons_succ]
                  refine wpAnyH_take (i := 11) (oi := ⟨some 6, _, _, _, _, _⟩) (v := .bool (decide ((k : Int) ≥ (cs.length : Int)))) rfl (by kernel_rfl) (by kernel_rfl) (by kernel_rfl) (fun _ _ _ h => h) (Or.inl ⟨by rfl, fun W _ => by go_simp⟩) hS ?_
                  try simp only [Act.put, List.setIfInBounds_toArray, List.set_cons_zero, List.set_cons_succ]
                  refine wpAnyH_take (i := 12) (oi := ⟨some 7, _, _, _, _, _⟩) (v := .int .i64 rc) rfl (by kernel_rfl) (by kernel_rfl) (by kernel_rfl) (fun _ _ _ h => h) (Or.inl ⟨by rfl, fun W _ => by go_simp⟩) hS ?_
                  try simp only [Act.put, List.setIfInBounds_toArray, List.set_cons_zero, List.set_cons_succ]
                  refine wpAnyH_done (by kernel_rfl) ?_ _
                  clear hS
                  go_wp2_with fail
                  refine ret_blk4 (cs := (imgCells (.slice none 0 0) 0 0)) Tryd.results26 rfl (HL5.out.drew.r.rowSame _) Tryd.underlying60 rfl Tryd.sizeImage rfl rfl rfl rfl ?_
                  rw [HX.out]
                  refine ⟨_, ?_, CodsAt.nil _ _, Below.row HL5.out.drew.k (by omega) _⟩
                  have hd : decide ((k : Int) ≥ (cs.length : Int)) = decide (cs.length ≤ k) := by simp
                  rw [hd]
                  rfl
              · have hE : allL ds cs.length 0 ds = (0, false, 0) := by rw [HALL0.out, List.drop_of_length_le (by omega)]; rfl
                have HALL := Lib.hid (show ((allL ds cs.length 0 ds).2.2 != 0) = false by rw [hE]; rfl)
                go_wp2_with fail
                refine (lmain_any HLI.out.s).mono ?_
                rintro e w9 ⟨rfl, rfl⟩
                have HX := Lib.hid (show linkL a b = match mainL ds cs.length with | none => (img0, 0, true, 55) | some m => (⟨ds, cs.length, m⟩, 0, false, 0) by unfold linkL; rw [hq1]; simp only; rw [hq2]; simp only; rw [HALL.out]; rfl)
                cases hm : mainL ds cs.length with
                | none =>
                  rw [hm] at HX
                  go_wp2_with ((with_reducible refine at_st 60 (.tmp 4) ?_); refine wpList_store_blk rfl 60 (.tmp 4) (.tmp 87) rfl (w.heap.size + 1 + 1) (imgCells (.slice none 0 0) 0 0) rfl rfl HLI.out.r Tryd.sizeImage rfl (by intro x hx; simp only [imgCells, List.mem_cons, List.not_mem_nil, or_false] at hx; rcases hx with rfl | rfl | rfl <;> rfl) ?_)
                  refine ret_blk4 (cs := (imgCells (.slice none 0 0) 0 0)) Tryd.results26 rfl (HLI.out.r.rowSame _) Tryd.underlying60 rfl Tryd.sizeImage rfl rfl rfl rfl ?_
                  rw [HX.out]
                  exact ⟨_, rfl, CodsAt.nil _ _, Below.row HLI.out.k (by omega) _⟩
                | some m =>
                  rw [hm] at HX
                  go_wp2_with fail
                  refine wp_region_held_drew (S := fun W => Blk W (w.heap.size + 1 + 1 + 1 + 1) (lkCells (.slice (some ⟨g, 0, none⟩) ds.length vc) cs.length (w.heap.size + 1 + 1 + 1)) 98) (by kernel_rfl) HLI.out.drew.s.l (fun hS => ?_)
                  refine wpAnyH_take (i := 0) (oi := ⟨some 88, _, _, _, _, _⟩) (v := .pointer (some ⟨w.heap.size + 1 + 1 + 1 + 1, 0, none⟩)) rfl (by kernel_rfl) (by kernel_rfl) (by kernel_rfl) (fun _ _ _ h => h) (Or.inl ⟨by rfl, fun W _ => by go_simp⟩) hS ?_
                  try simp only [Act.put, List.setIfInBounds_toArray, List.set_cons_zero, List.set_cons_succ]
                  refine wpAnyH_take (i := 1) (oi := ⟨some 89, _, _, _, _, _⟩) (v := .pointer (some ⟨w.heap.size + 1 + 1 + 1 + 1, 0, none⟩)) rfl (by kernel_rfl) (by kernel_rfl) (by kernel_rfl) (fun _ _ _ h => h) (Or.inl ⟨by rfl, fun W _ => by go_simp⟩) hS ?_
                  try simp only [Act.put, List.setIfInBounds_toArray, List.set_cons_zero, List.set_cons_succ]
                  refine wpAnyH_take (i := 2) (oi := ⟨some 90, _, _, _, _, _⟩) (v := .pointer (some ⟨w.heap.size + 1 + 1 + 1 + 1, 0, none⟩)) rfl (by kernel_rfl) (by kernel_rfl) (by kernel_rfl) (fun _ _ _ h => h) (Or.inl ⟨by rfl, fun W _ => by go_simp⟩) hS ?_
                  try simp only [Act.put, List.setIfInBounds_toArray, List.set_cons_zero, List.set_cons_succ]
                  refine wpAnyH_take (i := 3) (oi := ⟨some 91, _, _, _, _, _⟩) (v := .slice (some ⟨g, 0, none⟩) ds.length vc) rfl (by kernel_rfl) (by kernel_rfl) (by kernel_rfl) (fun _ _ _ h => h) (Or.inl ⟨by rfl, fun W hW => by have hcx : W.cell? ⟨(w.heap.size + 1 + 1 + 1 + 1), 0, none⟩ = some (.slice (some ⟨g, 0, none⟩) ds.length vc) := (hW).cell 0; go_simp⟩) hS ?_
                  try simp only [Act.put, List.setIfInBounds_toArray, List.set_cons_zero, List.set_cons_succ]
                  refine wpAnyH_take (i := 4) (oi := ⟨some 92, _, _, _, _, _⟩) (v := .pointer (some ⟨w.heap.size + 1 + 1 + 1 + 1, 0, none⟩)) rfl (by kernel_rfl) (by kernel_rfl) (by kernel_rfl) (fun _ _ _ h => h) (Or.inl ⟨by rfl, fun W _ => by go_simp⟩) hS ?_
                  try simp only [Act.put, List.setIfInBounds_toArray, List.set_cons_zero, List.set_cons_succ]
                  refine wpAnyH_take (i := 5) (oi := ⟨some 93, _, _, _, _, _⟩) (v := .pointer (some ⟨w.heap.size + 1 + 1 + 1 + 1, 0, none⟩)) rfl (by kernel_rfl) (by kernel_rfl) (by kernel_rfl) (fun _ _ _ h => h) (Or.inl ⟨by rfl, fun W _ => by go_simp⟩) hS ?_
                  try simp only [Act.put, List.setIfInBounds_toArray, List.set_cons_zero, List.set_cons_succ]
                  refine wpAnyH_take (i := 6) (oi := ⟨some 94, _, _, _, _, _⟩) (v := .pointer (some ⟨w.heap.size + 1 + 1 + 1 + 1, 1, none⟩)) rfl (by kernel_rfl) (by kernel_rfl) (by kernel_rfl) (fun _ _ _ h => h) (Or.inl ⟨by rfl, fun W _ => by go_simp⟩) hS ?_
                  try simp only [Act.put, List.setIfInBounds_toArray, List.set_cons_zero, List.set_cons_succ]
                  refine wpAnyH_take (i := 7) (oi := ⟨some 95, _, _, _, _, _⟩) (v := .int .i64 (cs.length : Int)) rfl (by kernel_rfl) (by kernel_rfl) (by kernel_rfl) (fun _ _ _ h => h) (Or.inl ⟨by rfl, fun W hW => by have hcx : W.cell? ⟨(w.heap.size + 1 + 1 + 1 + 1), 1, none⟩ = some (.int .i64 (cs.length : Int)) := (hW).cell 1; go_simp⟩) hS ?_
                  try simp only [Act.put, List.setIfInBounds_toArray, List.set_cons_zero, List.set_cons_succ]
                  refine wpAnyH_take (i := 8) (oi := ⟨some 96, _, _, _, _, _⟩) (v := .int .i64 (m : Int)) rfl (by kernel_rfl) (by kernel_rfl) (by kernel_rfl) (fun _ _ _ h => h) (Or.inl ⟨by rfl, fun W _ => by go_simp⟩) hS ?_
                  try simp only [Act.put, List.setIfInBounds_toArray, List.set_cons_zero, List.set_cons_succ]
                  refine wpAnyH_take (i := 9) (oi := ⟨some 97, _, _, _, _, _⟩) (v := .agg #[.slice (some ⟨g, 0, none⟩) ds.length vc, .int .i64 (cs.length : Int), .int .i64 (m : Int)]) rfl (by kernel_rfl) (by kernel_rfl) (by kernel_rfl) (fun _ _ _ h => h) (Or.inl ⟨by rfl, fun W _ => by go_simp⟩) hS ?_
                  try simp only [Act.put, List.setIfInBounds_toArray, List.set_cons_zero, List.set_cons_succ]
                  refine AnyH.only (i := 10) (o := ⟨none, _, _, _, _, _⟩) (by kernel_rfl) rfl (by rfl) (fun K hK => ?_)
                  refine wp_store_blk 60 (.tmp 4) (.tmp 97) rfl (w.heap.size + 1 + 1) (imgCells (.slice (some ⟨g, 0, none⟩) ds.length vc) cs.length m) rfl rfl HLI.out.drew.r Tryd.sizeImage rfl (by intro x hx; simp only [imgCells, List.mem_cons, List.not_mem_nil, or_false] at hx; rcases hx with rfl | rfl | rfl <;> rfl) ?_
                  have hS1 := hS.rowOther (w.heap.size + 1 + 1) (imgCells (.slice (some ⟨g, 0, none⟩) ds.length vc) cs.length m).toArray (by omega)
                  clear hS
                  have hS := hS1
                  clear hS1
                  refine hK.out _ _ hS ?_
                  clear hK K
                  try simp only [Act.put]
                  refine wpAnyH_take (i := 11) (oi := ⟨some 5, _, _, _, _, _⟩) (v := .int .i64 0) rfl (by kernel_rfl) (by kernel_rfl) (by kernel_rfl) (fun _ _ _ h => h) (Or.inl ⟨by rfl, fun W _ => by go_simp⟩) hS ?_
                  try simp only [Act.put, List.setIfInBounds_toArray, List.set_cons_zero, List.set_cons_succ]
                  refine wpAnyH_take (i := 12) (oi := ⟨some 6, _, _, _, _, _⟩) (v := .bool false) rfl (by kernel_rfl) (by kernel_rfl) (by kernel_rfl) (fun _ _ _ h => h) (Or.inl ⟨by rfl, fun W _ => by go_simp⟩) hS ?_
                  try simp only [Act.put, List.setIfInBounds_toArray, List.set_cons_zero, List.set_cons_succ]
                  refine wpAnyH_take (i := 13) (oi := ⟨some 7, _, _, _, _, _⟩) (v := .int .i64 0) rfl (by kernel_rfl) (by kernel_rfl) (by kernel_rfl) (fun _ _ _ h => h) (Or.inl ⟨by rfl, fun W _ => by go_simp⟩) hS ?_
                  try simp only [Act.put, List.setIfInBounds_toArray, List.set_cons_zero, List.set_cons_succ]
                  refine wpAnyH_done (by kernel_rfl) ?_ _
                  clear hS
                  go_wp2_with fail
                  refine ret_blk4 (cs := imgCells (.slice (some ⟨g, 0, none⟩) ds.length vc) cs.length m) Tryd.results26 rfl (HLI.out.drew.r.rowSame _) Tryd.underlying60 rfl Tryd.sizeImage rfl rfl rfl rfl ?_
                  rw [HX.out]
                  exact ⟨_, rfl, HLI.out.drew.s.c.keep fun b hb hl => ⟨by have := hb.1; omega, setRow_other _ _ _ _ (by have := hb.1; omega)⟩, Below.row HLI.out.drew.k (by omega) _⟩
end

section
open Go.RowKit

theorem goods_mem : ∀ {ks : List T} {t : T}, goods ks = true → t ∈ ks → t.good = true
  | a :: ks, t, h, hm => by
    rw [goods_cons, Bool.and_eq_true] at h
    rcases List.mem_cons.1 hm with rfl | hm
    · exact h.1
    · exact goods_mem h.2 hm
theorem good_kids {t : T} (h : t.good = true) : goods t.kids = true := by
  cases t
  rw [good_mk, Bool.and_eq_true] at h
  exact h.2
theorem good_name {t : T} (h : t.good = true) (hk : t.kind = 6 ∨ t.kind = 19 ∨ t.kind = 28) : isNameB t.text = true := by
  obtain ⟨k, s, n, p, ks⟩ := t
  rw [good_mk, Bool.and_eq_true] at h
  have h1 := h.1
  unfold nodeB at h1
  simp only [Bool.and_eq_true] at h1
  have h2 := h1.2.2
  have hk' : k = 6 ∨ k = 19 ∨ k = 28 := hk
  unfold textB at h2
  rcases hk' with rfl | rfl | rfl <;> exact h2
theorem name_size {s : ByteArray} (h : isNameB s = true) : s.size ≤ maxLen := by
  unfold isNameB at h
  simp only [Bool.and_eq_true, decide_eq_true_eq] at h
  have := h.1.1.1.2
  unfold maxLen
  omega
theorem stmt_named (blk : Nat → List T → List Ins) (c : Nat) {t : T} (hw : t.whole) (hg : t.good = true) (_ : isStmtK t.kind) (h15 : t.kind ≠ 15) (h16 : t.kind ≠ 16) : ∀ i ∈ stmtI blk c t, (i.op = 12 ∨ i.op = 13) → i.y.size ≤ maxLen := by
  have e15 : (t.kind == 15) = false := by simp; omega
  have e16 : (t.kind == 16) = false := by simp; omega
  intro i hi ho
  unfold stmtI at hi
  rw [e15, e16] at hi
  cases h10 : (t.kind == 10) with
  | true =>
    rw [h10] at hi
    obtain rfl : i = setI t := by simpa using hi
    have hka : ∃ a, t.kids = [a] := by
      have h1 := (whole_eq.1 hw).1
      have hk10 : t.kind = 10 := by simpa using h10
      rw [hk10] at h1
      generalize t.kids = ks at *
      cases h1 with
      | @set a e ha => exact ⟨a, rfl⟩
      | unit e | type e | none e | one e | two e | fn e | param e | block e | cond e | loop e | call1 e | load e | call e | leaf e => omega
    obtain ⟨a, ha⟩ := hka
    have hga : a.good = true := goods_mem (good_kids hg) (by rw [ha]; simp)
    have hp : kidP t 0 = a := by unfold kidP; rw [ha]; rfl
    unfold setI at ho ⊢
    rw [hp] at ho ⊢
    cases h1 : (a.kind == 5) with
    | true => rw [h1] at ho; exact absurd (show (0 : Int) = 12 ∨ (0 : Int) = 13 from ho) (by decide)
    | false =>
    cases h2 : (a.kind == 26 || a.kind == 27) with
    | true => rw [h1, h2] at ho; exact absurd (show (0 : Int) = 12 ∨ (0 : Int) = 13 from ho) (by decide)
    | false =>
    cases h3 : (a.kind == 21) with
    | true => rw [h1, h2, h3] at ho; exact absurd (show (1 : Int) = 12 ∨ (1 : Int) = 13 from ho) (by decide)
    | false =>
    cases h4 : (a.kind == 22) with
    | true => rw [h1, h2, h3, h4] at ho; exact absurd (show (2 : Int) = 12 ∨ (2 : Int) = 13 from ho) (by decide)
    | false =>
    cases h5 : (a.kind == 23) with
    | true => rw [h1, h2, h3, h4, h5] at ho; exact absurd (show (3 : Int) = 12 ∨ (3 : Int) = 13 from ho) (by decide)
    | false =>
    cases h6 : (a.kind == 24) with
    | true => rw [h1, h2, h3, h4, h5, h6] at ho; exact absurd (show (4 : Int) = 12 ∨ (4 : Int) = 13 from ho) (by decide)
    | false =>
    cases h7 : (a.kind == 25) with
    | true => rw [h1, h2, h3, h4, h5, h6, h7] at ho; exact absurd (show (5 : Int) = 12 ∨ (5 : Int) = 13 from ho) (by decide)
    | false =>
    cases h8 : (a.kind == 28) with
    | true => exact name_size (good_name hga (.inr (.inr (by simpa using h8))))
    | false => rw [h1, h2, h3, h4, h5, h6, h7, h8] at ho; exact absurd (show (0 : Int) = 12 ∨ (0 : Int) = 13 from ho) (by decide)
  | false =>
    rw [h10] at hi
    unfold simpleI at hi
    cases h11 : (t.kind == 11) with
    | true => rw [h11] at hi; obtain rfl := List.mem_singleton.1 hi; exact absurd (show (6 : Int) = 12 ∨ (6 : Int) = 13 from ho) (by decide)
    | false =>
    cases h12 : (t.kind == 12) with
    | true => rw [h11, h12] at hi; obtain rfl := List.mem_singleton.1 hi; exact absurd (show (7 : Int) = 12 ∨ (7 : Int) = 13 from ho) (by decide)
    | false =>
    cases h13 : (t.kind == 13) with
    | true => rw [h11, h12, h13] at hi; obtain rfl := List.mem_singleton.1 hi; exact absurd (show (8 : Int) = 12 ∨ (8 : Int) = 13 from ho) (by decide)
    | false =>
    cases h14 : (t.kind == 14) with
    | true => rw [h11, h12, h13, h14] at hi; obtain rfl := List.mem_singleton.1 hi; exact absurd (show (9 : Int) = 12 ∨ (9 : Int) = 13 from ho) (by decide)
    | false =>
    cases h20 : (t.kind == 20) with
    | true =>
      rw [h11, h12, h13, h14, h20] at hi
      obtain rfl := List.mem_singleton.1 hi
      have hka : ∃ a, t.kids = [a] ∧ a.kind = 28 := by
        have h1 := (whole_eq.1 hw).1
        have hk20 : t.kind = 20 := by simpa using h20
        rw [hk20] at h1
        generalize t.kids = ks at *
        cases h1 with
        | @call1 a e ha => exact ⟨a, rfl, ha⟩
        | unit e | type e | none e | one e | two e | fn e | param e | block e | set e | cond e | loop e | load e | call e | leaf e => omega
      obtain ⟨a, ha, hak⟩ := hka
      have hga : a.good = true := goods_mem (good_kids hg) (by rw [ha]; simp)
      have hp : kidP t 0 = a := by unfold kidP; rw [ha]; rfl
      show (kidP t 0).text.size ≤ maxLen
      rw [hp]
      exact name_size (good_name hga (.inr (.inr hak)))
    | false =>
    cases h19 : (t.kind == 19) with
    | true =>
      rw [h11, h12, h13, h14, h20, h19] at hi
      obtain rfl := List.mem_singleton.1 hi
      exact name_size (good_name hg (.inr (.inl (by simpa using h19))))
    | false =>
    cases h17 : (t.kind == 17) with
    | true => rw [h11, h12, h13, h14, h20, h19, h17] at hi; obtain rfl := List.mem_singleton.1 hi; exact absurd (show (14 : Int) = 12 ∨ (14 : Int) = 13 from ho) (by decide)
    | false =>
    cases h18 : (t.kind == 18) with
    | true => rw [h11, h12, h13, h14, h20, h19, h17, h18] at hi; obtain rfl := List.mem_singleton.1 hi; exact absurd (show (15 : Int) = 12 ∨ (15 : Int) = 13 from ho) (by decide)
    | false => rw [h11, h12, h13, h14, h20, h19, h17, h18] at hi; simp at hi
theorem blockI_named : ∀ (n : Nat) (ks : List T), sizes ks ≤ n → KindsAre isStmtK ks → wholes ks → goods ks = true → ∀ c, ∀ i ∈ blockI n c ks, (i.op = 12 ∨ i.op = 13) → i.y.size ≤ maxLen
  | 0, ks, _, _, _, _, c, i, hi, _ => by simp [blockI] at hi
  | n + 1, ks, hn, hk, hw, hg, c, i, hi, ho => by
    have hi' : i ∈ stmtsI (blockI n) c ks := hi
    clear hi
    induction ks generalizing c with
    | nil => simp [stmtsI] at hi'
    | cons t ts ih =>
      rw [sizes_cons] at hn
      have hts : t.size = 1 + sizes t.kids := by cases t; rw [size_mk]; rfl
      have hwt := wholes_cons.1 hw
      have hgt : t.good = true ∧ goods ts = true := by rw [goods_cons, Bool.and_eq_true] at hg; exact hg
      have hkt : isStmtK t.kind := hk t (by simp)
      rw [stmtsI, List.mem_append] at hi'
      rcases hi' with hi | hi
      · rcases stmt_form hwt.1 hkt with ⟨h15, a, b, x, y, he, hab, hxy, hwab, hx, hy⟩ | ⟨h16, a, b, x, he, hab, hx9, hwab, hx⟩ | ⟨h15, h16, h0⟩
        · have s1 : sizes t.kids = a.size + (b.size + (x.size + (y.size + 0))) := by rw [he, sizes_cons, sizes_cons, sizes_cons, sizes_cons, sizes_nil]
          have s2 : x.size = 1 + sizes x.kids := by cases x; rw [size_mk]; rfl
          have s3 : y.size = 1 + sizes y.kids := by cases y; rw [size_mk]; rfl
          have hbx := block_kids hx hxy.1
          have hby := block_kids hy hxy.2
          have gx : x.good = true := goods_mem (good_kids hgt.1) (by rw [he]; simp)
          have gy : y.good = true := goods_mem (good_kids hgt.1) (by rw [he]; simp)
          rw [stmtI_if _ _ h15 he] at hi
          simp only [List.mem_cons, List.mem_append] at hi
          rcases hi with rfl | hi | rfl | hi
          · exact absurd ho (by show ¬ ((10 : Int) = 12 ∨ (10 : Int) = 13); omega)
          · exact blockI_named n x.kids (by omega) hbx.1 hbx.2 (good_kids gx) _ i hi ho
          · exact absurd ho (by show ¬ ((11 : Int) = 12 ∨ (11 : Int) = 13); omega)
          · exact blockI_named n y.kids (by omega) hby.1 hby.2 (good_kids gy) _ i hi ho
        · have s1 : sizes t.kids = a.size + (b.size + (x.size + 0)) := by rw [he, sizes_cons, sizes_cons, sizes_cons, sizes_nil]
          have s2 : x.size = 1 + sizes x.kids := by cases x; rw [size_mk]; rfl
          have hbx := block_kids hx hx9
          have gx : x.good = true := goods_mem (good_kids hgt.1) (by rw [he]; simp)
          rw [stmtI_while _ _ h16 he] at hi
          simp only [List.mem_cons, List.mem_append, List.not_mem_nil, or_false] at hi
          rcases hi with rfl | hi | rfl
          · exact absurd ho (by show ¬ ((10 : Int) = 12 ∨ (10 : Int) = 13); omega)
          · exact blockI_named n x.kids (by omega) hbx.1 hbx.2 (good_kids gx) _ i hi ho
          · exact absurd ho (by show ¬ ((11 : Int) = 12 ∨ (11 : Int) = 13); omega)
        · exact stmt_named (blockI n) c hwt.1 hgt.1 hkt h15 h16 i hi ho
      · exact ih (by omega) (fun u hu => hk u (by simp [hu])) hwt.2 hgt.2 _ hi
theorem fn_named {t : T} (hw : t.whole) (hg : t.good = true) (hs : t.size ≤ 5000) : YOk (lowerI t).list := by
  by_cases h6 : t.kind = 6
  · obtain ⟨xs, r, b, he, hx, hwx, hr, hb, hsz, hl⟩ := fn_form hw h6
    have hts : t.size = 1 + sizes t.kids := by cases t; rw [size_mk]; rfl
    have hbk := block_kids hb.2 hb.1
    have gb : b.good = true := goods_mem (good_kids hg) (by rw [he]; simp)
    intro i hi ho
    rw [hl] at hi
    have hi' : i ∈ blockI 5000 0 b.kids ++ [retI b] := hi
    rw [List.mem_append] at hi'
    rcases hi' with hi | hi
    · exact blockI_named 5000 b.kids (by omega) hbk.1 hbk.2 (good_kids gb) _ i hi ho
    · obtain rfl : i = retI b := by simpa using hi
      exact absurd ho (by show ¬ ((14 : Int) = 12 ∨ (14 : Int) = 13); omega)
  · rw [fn_not h6]
    intro i hi
    simp [cod0] at hi

/- What Link asks of a tree. -/
structure LinkOk (t : T) : Prop where
  w : t.whole
  s : t.size ≤ 4990
  n : NamesOk t.kids
  y : ∀ u ∈ t.kids, YOk (lowerI u).list
theorem parse_linkOk (s : ByteArray) : LinkOk (parseB s).1 := by
  have hw := (parse_whole s).2
  have hg := parse_good s
  have hts : (parseB s).1.size = 1 + sizes (parseB s).1.kids := by cases (parseB s).1; rw [size_mk]; rfl
  refine ⟨hw, by omega, fun t ht h6 => name_size (good_name (goods_mem (good_kids hg.1) ht) (.inl h6)), fun t ht => ?_⟩
  obtain ⟨q, hq⟩ := List.mem_iff_getElem?.1 ht
  have h1 := sizes_mem hq
  exact fn_named (wholes_mem (whole_eq.1 hw).2 ht) (goods_mem (good_kids hg.1) ht) (by omega)
theorem link_ok {w : World} {a b : T} {av bv : Value} {Sa Sb : Nat → Prop} (ha : KAt 25 w a.kids Sa av) (hb : KAt 25 w b.kids Sb bv) (ga : LinkOk a) (gb : LinkOk b) :
    Calls Tryd.prog 26 #[NodeV a av, NodeV b bv] w (LinkPost w (linkL a b)) :=
  link_any ha hb ga.w gb.w ga.s gb.s ga.n gb.n ga.y gb.y
end

section
open Go.RowKit Go.Maps

def s8a : ByteArray := ⟨#[102, 110, 32, 102, 40, 41, 32, 123, 32, 125]⟩
def s8b : ByteArray := ⟨#[102, 110, 32, 109, 97, 105, 110, 40, 41, 32, 123, 32, 102, 40, 41, 59, 32, 125]⟩
def s8c : ByteArray := ⟨#[102, 110, 32, 109, 97, 105, 110, 40, 41, 32, 123, 32, 102, 40, 49, 41, 59, 32, 125]⟩
theorem end8a : (parseB s8a).2 = (0, 0) := by kernel_rfl
theorem end8b : (parseB s8b).2 = (0, 0) := by kernel_rfl
theorem end8c : (parseB s8c).2 = (0, 0) := by kernel_rfl
theorem link8b : (linkL (parseB s8a).1 (parseB s8b).1).1.codes.length = 2 ∧ (linkL (parseB s8a).1 (parseB s8b).1).1.libs = 1 ∧ (linkL (parseB s8a).1 (parseB s8b).1).1.main = 1 ∧ (linkL (parseB s8a).1 (parseB s8b).1).2.2.2 = 0 := ⟨by kernel_rfl, by kernel_rfl, by kernel_rfl, by kernel_rfl⟩
theorem link8c : (linkL (parseB s8a).1 (parseB s8c).1).2 = (12, true, 51) := by kernel_rfl

set_option maxRecDepth 100000 in
set_option maxHeartbeats 1000000 in
theorem wakes8_any (w : World) (ht : Tabs w) :
    Calls Tryd.prog 25 #[] w fun e w' => e = .returned (.bool true) ∧ Below w.heap.size w w' := by
  have HT := Lib.hid ht
  have ga := Lib.hid (parse_linkOk s8a)
  have gb := Lib.hid (parse_linkOk s8b)
  have gc := Lib.hid (parse_linkOk s8c)
  have lb := link8b
  have lc := link8c
  obtain ⟨ta, hqa⟩ : ∃ t, parseB s8a = (t, 0, 0) := ⟨(parseB s8a).1, by rw [← end8a]⟩
  obtain ⟨tb, hqb⟩ : ∃ t, parseB s8b = (t, 0, 0) := ⟨(parseB s8b).1, by rw [← end8b]⟩
  obtain ⟨tc, hqc⟩ : ∃ t, parseB s8c = (t, 0, 0) := ⟨(parseB s8c).1, by rw [← end8c]⟩
  rw [hqa] at ga lb lc
  rw [hqb] at gb lb
  rw [hqc] at gc lc
  have HLB := Lib.hid lb
  have HLC := Lib.hid lc
  have HQA := Lib.hid hqa
  have HQB := Lib.hid hqb
  have HQC := Lib.hid hqc
  clear ht lb lc hqa hqb hqc
  go_enter Tryd.func25, Tryd.ntmps25
  go_wp2_with fail
  refine (parse_any s8a w (by unfold maxLen; decide) HT.out).mono ?_
  rw [HQA.out]
  rintro e w1 ⟨kva, rfl, hka, hb1⟩
  have HOA := Lib.hid (KAt.one hka)
  have HKA := Lib.hid (KAt.alloc hka (.cells (nodeCells ta kva).toArray 25))
  have HBA := Lib.hid (hb1.alloc hb1.size (.cells (nodeCells ta kva).toArray 25))
  have HNA := Lib.hid (Blk.new w1 (nodeCells ta kva) 25)
  have HTA := Lib.hid (HT.out.below HBA.out HT.out.size)
  clear hka hb1
  unfold NodeV
  go_wp2_with ((with_reducible refine at_st 25 (.tmp 1) ?_); refine wpList_store_new rfl 25 (.tmp 1) (.tmp 20) rfl (nodeCells ta kva) (old := zeroNodeCells) rfl rfl Tryd.sizeNode rfl (nodeCells_one _ _ HOA.out) ?_)
  refine (parse_any s8b _ (by unfold maxLen; decide) HTA.out).mono ?_
  rw [HQB.out]
  rintro e w2 ⟨kvb, rfl, hkb, hb2⟩
  have HOB := Lib.hid (KAt.one hkb)
  have HKB := Lib.hid (KAt.alloc hkb (.cells (nodeCells tb kvb).toArray 25))
  have hb2' : Below (w1.alloc (.cells (nodeCells ta kva).toArray 25)).heap.size (w1.alloc (.cells (nodeCells ta kva).toArray 25)) (w2.alloc (.cells (nodeCells tb kvb).toArray 25)) := hb2.alloc hb2.size _
  have HKA2 := Lib.hid (HKA.out.below hb2')
  have HNA2 := Lib.hid (HNA.out.stays hb2')
  have HNB := Lib.hid (Blk.new w2 (nodeCells tb kvb) 25)
  have HBB := Lib.hid (HBA.out.trans (hb2'.mono HBA.out.size))
  have HTB := Lib.hid (HT.out.below HBB.out HT.out.size)
  clear hkb hb2 hb2' HKA HNA HTA
  unfold NodeV
  go_wp2_with ((with_reducible refine at_st 25 (.tmp 4) ?_); refine wpList_store_new rfl 25 (.tmp 4) (.tmp 25) rfl (nodeCells tb kvb) (old := zeroNodeCells) rfl rfl Tryd.sizeNode rfl (nodeCells_one _ _ HOB.out) ?_)
  refine (parse_any s8c _ (by unfold maxLen; decide) HTB.out).mono ?_
  rw [HQC.out]
  rintro e w3 ⟨kvc, rfl, hkc, hb3⟩
  have HOC := Lib.hid (KAt.one hkc)
  have HKC := Lib.hid (KAt.alloc hkc (.cells (nodeCells tc kvc).toArray 25))
  have hb3' : Below (w2.alloc (.cells (nodeCells tb kvb).toArray 25)).heap.size (w2.alloc (.cells (nodeCells tb kvb).toArray 25)) (w3.alloc (.cells (nodeCells tc kvc).toArray 25)) := hb3.alloc hb3.size _
  have HKA3 := Lib.hid (HKA2.out.below hb3')
  have HNA3 := Lib.hid (HNA2.out.stays hb3')
  have HKB3 := Lib.hid (HKB.out.below hb3')
  have HNB3 := Lib.hid (HNB.out.stays hb3')
  have HNC := Lib.hid (Blk.new w3 (nodeCells tc kvc) 25)
  have HBC := Lib.hid (HBB.out.trans (hb3'.mono HBB.out.size))
  clear hkc hb3 hb3' HKA2 HNA2 HTB HKB HNB HBA HBB
  obtain ⟨W3, hW3⟩ : ∃ W, w3.alloc (.cells (nodeCells tc kvc).toArray 25) = W := ⟨_, rfl⟩
  rw [hW3] at HKC HKA3 HNA3 HKB3 HNB3 HNC HBC
  unfold NodeV
  go_wp2_with (first
    | ((with_reducible refine at_st 25 (.tmp 7) ?_); refine wpList_store_new rfl 25 (.tmp 7) (.tmp 30) rfl (nodeCells tc kvc) (old := zeroNodeCells) rfl rfl Tryd.sizeNode rfl (nodeCells_one _ _ HOC.out) ?_)
    | ((with_reducible refine at_ld 25 (.tmp 1) ?_); refine wpList_load_blk rfl 25 (.tmp 1) rfl w1.heap.size (nodeCells ta kva) rfl (by first | exact HNA3.out | (rw [hW3]; exact HNA3.out)) Tryd.underlying25 rfl Tryd.sizeNode ?_)
    | ((with_reducible refine at_ld 25 (.tmp 4) ?_); refine wpList_load_blk rfl 25 (.tmp 4) rfl w2.heap.size (nodeCells tb kvb) rfl (by first | exact HNB3.out | (rw [hW3]; exact HNB3.out)) Tryd.underlying25 rfl Tryd.sizeNode ?_))
  first | refine calls_at W3 hW3 ?_ | skip
  clear hW3
  refine (link_ok HKA3.out HKB3.out ga.out gb.out).mono ?_
  rintro e w4 ⟨v4, rfl, hc4, hb4⟩
  obtain ⟨va4, vc4, rfl⟩ := hc4.slice
  obtain ⟨cs4, libs4, main4, p4, is4, e4, hr4⟩ : ∃ c l m p i e, linkL ta tb = (⟨c, l, m⟩, p, i, e) := ⟨_, _, _, _, _, _, rfl⟩
  have hlb := HLB.out
  rw [hr4] at hlb hc4 ⊢
  clear hr4
  obtain ⟨hl4, rfl, rfl, rfl⟩ : cs4.length = 2 ∧ libs4 = 1 ∧ main4 = 1 ∧ e4 = 0 := hlb
  have hc4' : CodsAt w4 cs4 (fun b => W3.heap.size ≤ b) (.slice va4 cs4.length vc4) := hc4
  have hb4' : Below W3.heap.size W3 (w4.alloc (.cells [.slice va4 2 vc4, .int .i64 1, .int .i64 1].toArray 60)) := hb4.alloc hb4.size _
  have HKA4 := Lib.hid (HKA3.out.below hb4')
  have HNA4 := Lib.hid (HNA3.out.stays hb4')
  have HKC4 := Lib.hid (HKC.out.below hb4')
  have HNC4 := Lib.hid (HNC.out.stays hb4')
  have HNI := Lib.hid (Blk.new w4 [.slice va4 2 vc4, .int .i64 1, .int .i64 1] 60)
  have HB4 := Lib.hid (HBC.out.trans (hb4'.mono HBC.out.size))
  clear hc4 hc4' hb4 hb4' HLB HKA3 HNA3 HKB3 HNB3 HKC HNC HBC
  obtain ⟨W4, hW4⟩ : ∃ W, w4.alloc (.cells [.slice va4 2 vc4, .int .i64 1, .int .i64 1].toArray 60) = W := ⟨_, rfl⟩
  rw [hW4] at HKA4 HNA4 HKC4 HNC4 HNI HB4
  rw [hl4]
  go_wp2_with (first
    | ((with_reducible refine at_st 60 (.tmp 10) ?_); refine wpList_store_new rfl 60 (.tmp 10) (.tmp 47) rfl [.slice va4 2 vc4, .int .i64 1, .int .i64 1] (old := imgCells (.slice none 0 0) 0 0) rfl rfl Tryd.sizeImage rfl (by intro x hx; simp only [List.mem_cons, List.not_mem_nil, or_false] at hx; rcases hx with rfl | rfl | rfl <;> rfl) ?_)
    | ((with_reducible refine at_ld 25 (.tmp 1) ?_); refine wpList_load_blk rfl 25 (.tmp 1) rfl w1.heap.size (nodeCells ta kva) rfl (by first | exact HNA4.out | (rw [hW4]; exact HNA4.out)) Tryd.underlying25 rfl Tryd.sizeNode ?_)
    | ((with_reducible refine at_ld 25 (.tmp 7) ?_); refine wpList_load_blk rfl 25 (.tmp 7) rfl w3.heap.size (nodeCells tc kvc) rfl (by first | exact HNC4.out | (rw [hW4]; exact HNC4.out)) Tryd.underlying25 rfl Tryd.sizeNode ?_))
  first | refine calls_at W4 hW4 ?_ | skip
  clear hW4
  refine (link_ok HKA4.out HKC4.out ga.out gc.out).mono ?_
  rintro e w5 ⟨v5, rfl, hc5, hb5⟩
  obtain ⟨va5, vc5, rfl⟩ := hc5.slice
  obtain ⟨cs5, libs5, main5, p5, is5, e5, hr5⟩ : ∃ c l m p i e, linkL ta tc = (⟨c, l, m⟩, p, i, e) := ⟨_, _, _, _, _, _, rfl⟩
  have hlc := HLC.out
  rw [hr5] at hlc ⊢
  obtain ⟨rfl, rfl, rfl⟩ : p5 = 12 ∧ is5 = true ∧ e5 = 51 := by simpa using hlc
  have HNJ := Lib.hid (Blk.stays (HNI.out.stays hb5) ((Below.refl _ _).alloc (Nat.le_refl _) (.cells [.slice va5 cs5.length vc5, .int .i64 libs5, .int .i64 main5].toArray 60)))
  have HB5 := Lib.hid (HB4.out.trans ((hb5.alloc hb5.size (.cells [.slice va5 cs5.length vc5, .int .i64 libs5, .int .i64 main5].toArray 60)).mono HB4.out.size))
  have i0 := HNJ.out.cell 0
  have i1 := HNJ.out.cell 1
  have i2 := HNJ.out.cell 2
  simp only [List.getElem?_cons_zero, List.getElem?_cons_succ] at i0 i1 i2
  clear hc5 hb5 hlc HLC hr5 HNI HNA4 HNC4 HKA4 HKC4
  go_wp2_with (first
    | ((with_reducible refine at_st 60 (.tmp 14) ?_); refine wpList_store_new rfl 60 (.tmp 14) (.tmp 55) rfl [.slice va5 cs5.length vc5, .int .i64 libs5, .int .i64 main5] (old := imgCells (.slice none 0 0) 0 0) rfl rfl Tryd.sizeImage rfl (by intro x hx; simp only [List.mem_cons, List.not_mem_nil, or_false] at hx; rcases hx with rfl | rfl | rfl <;> rfl) ?_))
  go_ret
  exact ⟨rfl, HB5.out⟩
end

section
open Go.ChangeShapes Go.WideShapes Go.ChangeAt Go.ChangeMaps Go.RowKit

set_option maxRecDepth 100000 in
theorem texts3_contract {H : Type} {enc : TypeId × Value → H} {f : FuncId} {fn : Func} {sp : ChangeSpec} {ts : List TypeId} (hp : fn.params = #[9, 9, 9]) (hr : fn.resultTypes = #[4]) (hvars : sp.vars = [])
    (hfn : ∀ d1 d2 d3 : DataW H, sp.fn H [d1, d2, d3] = { results := [.lit (.bool true)], args := [d1, d2, d3] })
    (walk : ∀ (a b s : ByteArray) (w : World), a.size ≤ maxLen → b.size ≤ maxLen → s.size ≤ maxLen → a.size ≤ 140737488351232 → s.size ≤ 140737488351232 → Tabs w → Calls Tryd.prog f #[.string a, .string b, .string s] w fun e w' => e = .returned (.bool true) ∧ Below w.heap.size w w')
    (W : World) (base : Nat) (args : Array Value) (ds gs : List (DataW H)) (before : List MemPlace)
    (hval : ∀ (j : Nat) t v, fn.params[j]? = some t → args[j]? = some v → Value.okWide Tryd.prog W .any base t v)
    (hW : DataW.Whole enc Tryd.prog fn.params.toList sp.vars false W args.toList ds gs before) (hreach : (DataW.weightsEach Tryd.prog (fn.params.toList ++ ts) (ds ++ gs)).all (· ≤ reachBytes) = true) (hL : laidMetH Tryd.prog laid3 W) :
    Calls Tryd.prog f args W fun e W' => ∃ v, e = .returned v ∧ sp.post enc Tryd.prog fn false true false false W args v W' := by
  have hW' := hW
  obtain ⟨p, q, hA0, hV, rfl, hfz, hnd⟩ := hW
  rw [hvars] at hV
  have hA : DataW.TrodAll enc Tryd.prog W 0 (fun _ => true) true fn.params.toList args.toList ds p := hA0
  rw [hp] at hA hval hreach
  obtain ⟨v0, vs0, d0, ds0, p0, q0, hargs, rfl, rfl, h0, r0⟩ := trodAll_cons hA
  obtain ⟨v1, vs1, d1, ds1, p1, q1, hargs1, rfl, rfl, h1, r1⟩ := trodAll_cons r0
  obtain ⟨v2, vs2, d2, ds2, p2, q2, hargs2, rfl, rfl, h2, r2⟩ := trodAll_cons r1
  obtain ⟨rfl, rfl, rfl⟩ := trodAll_nil r2
  obtain rfl : args = #[v0, v1, v2] := by cases args; simp_all
  obtain ⟨rfl, rfl⟩ := trodVars_none hV
  obtain ⟨a, rfl, rfl, rfl, hsa⟩ := open_string Tryd.underlying9 (hval 0 9 v0 rfl rfl) h0
  obtain ⟨b, rfl, rfl, rfl, hsb⟩ := open_string Tryd.underlying9 (hval 1 9 v1 rfl rfl) h1
  obtain ⟨s, rfl, rfl, rfl, hss⟩ := open_string Tryd.underlying9 (hval 2 9 v2 rfl rfl) h2
  clear hA0
  have hla : a.size ≤ 140737488351232 := by
    have := sized_string hreach (j := 0) (t := 9) (bytes := a.data.toList) rfl rfl
    rw [Array.length_toList] at this
    exact this
  have hls : s.size ≤ 140737488351232 := by
    have := sized_string hreach (j := 2) (t := 9) (bytes := s.data.toList) rfl rfl
    rw [Array.length_toList] at this
    exact this
  refine (walk a b s W hsa hsb hss hla hls (tabs_of_laid hL)).mono fun e W' ⟨he, hb⟩ => ⟨_, he, ?_⟩
  refine ⟨_, _, _, [], [], [], hW', ?_, ?_, ?_, hb.frame _, fun h => by cases h⟩
  · rw [List.append_nil, hfn, hr]
    exact trodAll_cons_mk (shut_bool Tryd.underlying4 _) trodAll_mk0
  · rw [List.append_nil, hfn, hp]
    exact trodAll_cons_mk (shut_string Tryd.underlying9 hsa) (trodAll_cons_mk (shut_string Tryd.underlying9 hsb) (trodAll_cons_mk (shut_string Tryd.underlying9 hss) trodAll_mk0))
  · rw [List.append_nil, hfn, hvars]
    rfl
theorem laid_met_texts3 (os : Os) : laidMet Tryd.prog laid3 ((laidWorld os).forCall (fun _ _ => 0) ⟨#[], #[.string ⟨#[]⟩, .string ⟨#[]⟩, .string ⟨#[]⟩], []⟩).memory :=
  laidMet_of_run' 8 (by kernel_rfl) (by kernel_rfl)
end

end Go.Proofs.YtnmpfpnldcgbaaaDoor
