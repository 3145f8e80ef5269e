/- Fields, facts and types in memory: rows of cells in a slice; a slice of types, each with rows of its own; append on them; the map of the types' names. Nothing of the program is walked here. -/
import Derived.Test.YtdkdidgeaalcgaaDoorShpP
import Derived.Test.YtdkdidgeaalcgaaDoorP06
import Derived.Test.YtdkdidgeaalcgaaDoorP05
import Derived.Maps.OwnSet
import Derived.Maps.OwnOps
namespace Go.Proofs.YtdkdidgeaalcgaaDoor
open Go.RowKit Go.Maps

theorem Below.row {B : Nat} {a w : World} (h : Below B a w) {g : Nat} (hg : B ≤ g) (cs : Array Value) : Below B a (w.setRow g cs) :=
  ⟨h.os, h.tape, h.output, by simpa [World.setRow] using h.size, fun k hk => (setRow_other w g k cs (by omega)).trans (h.block k hk)⟩
theorem Blk.stays {w w' : World} {g : Nat} {cs : List Value} {t : TypeId} (h : Blk w g cs t) (hb : Below w.heap.size w w') : Blk w' g cs t := (hb.block g h.lt).trans h

theorem ownsRow_keep {w w' : World} {o : Nat} {e : TypeId} {m n : Nat} {v : Value} {xs : List Value} (h : w.ownsRow o e m v n xs) (hk : ∀ g, v.ownBlock = some g → w'.heap[g]? = w.heap[g]?) : w'.ownsRow o e m v n xs := by
  refine ⟨h.1, ?_⟩
  rcases h.2 with hn | ⟨g, cap, cur, rfl, hb, hg, rest⟩
  · exact .inl hn
  · exact .inr ⟨g, cap, cur, rfl, hb, (hk g rfl).trans hg, rest⟩
/- Where the row lies behind an append of one element or more. -/
theorem append_blockN {P : Program} {w : World} {t ty e : TypeId} {i : TypeInfo} {z : Value} {m0 bytes : Nat} (ht : P.underlying t = some (.slice e)) (hi : P.info? e = some i) (hz : i.zero = some z) (hsize : i.size = m0) (hby : i.bytes = bytes)
    {v : Value} {n : Nat} {xs : List Value} (hown : w.ownsRow 0 e m0 v n xs) {a : Addr} {m c : Nat} {news : List Value} (hm : 0 < m) (hl : news.length = m * m0) (hnews : ∀ j u, news[j]? = some u → w.cell? (a.add j) = some u) (h1 : ∀ u ∈ news, u.oneCell' = true)
    (h63 : n + m ≤ maxLen) (hbytes : (n + m) * bytes ≤ 140737488355328) {v' : Value} {w' : World} (hr : (Builtin.append_ #[t, t] ty #[v, .slice (some a) m c]).run P w = .ok v' w') : v'.ownBlock = v.ownBlock ∨ v'.ownBlock = some w.heap.size := by
  subst hby
  have hsmall : n + m ≤ 9223372036854775807 := by simp only [maxLen] at h63; omega
  rw [← hsize] at hl
  rcases hown.2 with ⟨rfl, rfl⟩ | ⟨g, cap, cur, rfl, hbg, hg, hnc, hcm, hcs, htake⟩
  · have h := run_append_nil (P := P) w t ty e i z ht hi hz a m c news hl hnews hm (by omega) (by have hb := hbytes; simp only [Nat.zero_add] at hb; omega)
    rw [h] at hr
    cases hr
    exact .inr rfl
  · by_cases hroom : n + m ≤ cap
    · have hfit : n * i.size + news.length ≤ cur.size := by rw [hl, hcs, hsize, ← Nat.add_mul]; exact Nat.mul_le_mul_right _ hroom
      have h := run_append_room (P := P) w t ty e i ht hi g n cap cur hg a m c news hl hnews h1 hroom hfit
      rw [h] at hr
      cases hr
      exact .inl rfl
    · have h := run_append_grow (P := P) w t ty e i z ht hi hz ⟨g, 0, none⟩ n cap xs (by rw [hown.1, hsize]) (hown.cells (g := g) rfl) a m c news hl hnews (by omega) (by omega) (growslice_fits (by omega) hbytes)
      rw [h] at hr
      cases hr
      exact .inr rfl

structure RowInfo (P : Program) (t e : TypeId) (m bytes : Nat) (i : TypeInfo) (z : Value) : Prop where
  ht : P.underlying t = some (.slice e)
  hi : P.info? e = some i
  hz : i.zero = some z
  size : i.size = m
  bytes : i.bytes = bytes
  zs : z.cells.size = m

/- A row of things of m cells each, all of it the slice's own. -/
def RAt {α : Type} (e : TypeId) (m : Nat) (c : α → List Value) (w : World) (xs : List α) (S : Nat → Prop) (v : Value) : Prop :=
  w.ownsRow 0 e m v xs.length (xs.flatMap c) ∧ ∀ g, v.ownBlock = some g → S g
section
variable {α : Type} {e : TypeId} {m : Nat} {c : α → List Value} {w w' : World} {xs : List α} {S S' : Nat → Prop} {v : Value}
theorem RAt.keep (h : RAt e m c w xs S v) (hk : ∀ b, S b → b < w.heap.size → S' b ∧ w'.heap[b]? = w.heap[b]?) : RAt e m c w' xs S' v :=
  ⟨ownsRow_keep h.1 fun g hg => (hk g (h.2 g hg) (h.1.lt g hg).2).2, fun g hg => (hk g (h.2 g hg) (h.1.lt g hg).2).1⟩
theorem RAt.nil (w : World) (S : Nat → Prop) : RAt e m c w [] S (.slice none 0 0) := ⟨World.ownsRow_nil _ _ _ _, fun g h => by simp [Value.ownBlock] at h⟩
theorem RAt.mono (h : RAt e m c w xs S v) (hS : ∀ b, S b → b < w.heap.size → S' b) : RAt e m c w xs S' v := h.keep fun b hb hl => ⟨hS b hb hl, rfl⟩
theorem RAt.below (h : RAt e m c w xs S v) (hk : Below w.heap.size w w') : RAt e m c w' xs S v := h.keep fun b hb hl => ⟨hb, hk.block b hl⟩
theorem RAt.alloc (h : RAt e m c w xs S v) (o : Obj) : RAt e m c (w.alloc o) xs S v := h.keep fun b hb hl => ⟨hb, Below.heap_alloc w o b hl⟩
theorem RAt.drew (h : RAt e m c w xs S v) : RAt e m c w.drew xs S v := h.keep fun _ hb _ => ⟨hb, rfl⟩
theorem RAt.setRow (h : RAt e m c w xs S v) (g : Nat) (cs : Array Value) (hS : ∀ b, S b → b ≠ g) : RAt e m c (w.setRow g cs) xs S v := h.keep fun b hb _ => ⟨hb, setRow_other w g b cs (hS b hb)⟩
theorem RAt.setCell (h : RAt e m c w xs S v) (a : Addr) (x : Value) (hS : ∀ b, S b → b ≠ a.block) : RAt e m c (w.setCell a x) xs S v := h.keep fun b hb _ => ⟨hb, Below.heap_setCell w a x b (hS b hb)⟩
theorem RAt.slice (h : RAt e m c w xs S v) : ∃ a k, v = .slice a xs.length k := by
  rcases h.1.2 with ⟨rfl, h0⟩ | ⟨_, _, _, rfl, _⟩
  · exact ⟨_, _, by rw [h0]⟩
  · exact ⟨_, _, rfl⟩
theorem RAt.one (h : RAt e m c w xs S v) : v.oneCell' = true := by obtain ⟨_, _, rfl⟩ := h.slice; rfl
theorem flat_get (hc : ∀ a, (c a).length = m) : ∀ (xs : List α) (k : Nat) (x : α) (j : Nat), xs[k]? = some x → j < m → (xs.flatMap c)[k * m + j]? = (c x)[j]?
  | [], k, x, j, h, _ => by simp at h
  | a :: xs, 0, x, j, h, hj => by
    obtain rfl : a = x := by simpa using h
    rw [List.flatMap_cons, Nat.zero_mul, Nat.zero_add, List.getElem?_append_left (by rw [hc]; exact hj)]
  | a :: xs, k + 1, x, j, h, hj => by
    rw [List.flatMap_cons, List.getElem?_append_right (by rw [hc, Nat.succ_mul]; omega)]
    have e : (k + 1) * m + j - (c a).length = k * m + j := by rw [hc, Nat.succ_mul]; omega
    rw [e]
    exact flat_get hc xs k x j (by simpa using h) hj
theorem flat_len (hc : ∀ a, (c a).length = m) : ∀ (xs : List α), (xs.flatMap c).length = xs.length * m
  | [] => by simp
  | a :: xs => by rw [List.flatMap_cons, List.length_append, flat_len hc xs, hc, List.length_cons, Nat.succ_mul]; omega
theorem RAt.form (hc : ∀ a, (c a).length = m) (h : RAt e m c w xs S v) : (v = .slice none 0 0 ∧ xs = []) ∨ ∃ g cap, v = .slice (some ⟨g, 0, none⟩) xs.length cap ∧ (S g ∧ g < w.heap.size) ∧ xs.length ≤ cap ∧ cap ≤ maxLen ∧
    ∀ k x, xs[k]? = some x → w.rangeAt g (k * m) (c x) := by
  obtain ⟨ho, hS⟩ := h
  have ho' := ho
  rcases ho.2 with ⟨rfl, h0⟩ | ⟨g, cap, cur, rfl, hb, hg, hnc, hcm, hcs, htake⟩
  · exact .inl ⟨rfl, List.eq_nil_of_length_eq_zero h0⟩
  · refine .inr ⟨g, cap, rfl, ⟨hS g rfl, (Array.getElem?_eq_some_iff.1 hg).1⟩, hnc, hcm, fun k x hk j y hj => ?_⟩
    have hj5 : j < m := by have := (List.getElem?_eq_some_iff.1 hj).1; rw [hc] at this; exact this
    have hlt : k < xs.length := (List.getElem?_eq_some_iff.1 hk).1
    have hle : k * m + j < xs.length * m := by
      have : (k + 1) * m ≤ xs.length * m := Nat.mul_le_mul_right _ hlt
      rw [Nat.succ_mul] at this; omega
    rw [ho'.cellAt (k * m + j) hle, flat_get hc xs k x j hk hj5]
    exact hj
end

def fldCells (f : ByteArray × Int) : List Value := [.string f.1, .int .i64 f.2]
def faCells (f : Fa) : List Value := [.int .i64 f.x, .int .i64 f.y, .int .i64 f.c]
abbrev FldsAt := RAt 53 2 fldCells
abbrev FasAt := RAt 30 3 faCells
theorem fld_len (a : ByteArray × Int) : (fldCells a).length = 2 := rfl
theorem fa_len (a : Fa) : (faCells a).length = 3 := rfl

def tyCells (t : Ty) (p l : Value) : List Value := [.string t.name, .int .i64 t.sort, .int .i64 t.of, p, l]
def TyV (t : Ty) (p l : Value) : Value := .agg #[.string t.name, .int .i64 t.sort, .int .i64 t.of, p, l]
def TyAt (w : World) (t : Ty) (S : Nat → Prop) (p l : Value) : Prop := FldsAt w t.fields S p ∧ FasAt w t.facts S l

/- Types in memory. -/
def tyRow : List Ty → List (Value × Value) → List Value
  | c :: cs, u :: us => tyCells c u.1 u.2 ++ tyRow cs us
  | _, _ => []
def AllTys (w : World) : List Ty → (Nat → Prop) → List (Value × Value) → Prop
  | [], _, us => us = []
  | c :: cs, S, us => ∃ u us', us = u :: us' ∧ TyAt w c S u.1 u.2 ∧ AllTys w cs S us'
def TysAt (w : World) (cs : List Ty) (S : Nat → Prop) (v : Value) : Prop :=
  ∃ us, w.ownsRow 0 50 5 v cs.length (tyRow cs us) ∧ (∀ g, v.ownBlock = some g → S g) ∧ AllTys w cs (fun b => S b ∧ v.ownBlock ≠ some b) us

theorem TyAt.keep {w w' : World} {c : Ty} {S S' : Nat → Prop} {p l : Value} (h : TyAt w c S p l) (hk : ∀ b, S b → b < w.heap.size → S' b ∧ w'.heap[b]? = w.heap[b]?) : TyAt w' c S' p l := ⟨h.1.keep hk, h.2.keep hk⟩
theorem TyAt.one {w : World} {c : Ty} {S : Nat → Prop} {p l : Value} (h : TyAt w c S p l) : ∀ u ∈ tyCells c p l, u.oneCell' = true := by
  obtain ⟨_, _, rfl⟩ := h.1.slice
  obtain ⟨_, _, rfl⟩ := h.2.slice
  intro u hu
  simp only [tyCells, List.mem_cons, List.not_mem_nil, or_false] at hu
  rcases hu with rfl | rfl | rfl | rfl | rfl <;> rfl
theorem AllTys.keep {w w' : World} : ∀ (cs : List Ty) {S S' : Nat → Prop} {us : List (Value × Value)}, AllTys w cs S us → (∀ b, S b → b < w.heap.size → S' b ∧ w'.heap[b]? = w.heap[b]?) → AllTys w' cs S' us
  | [], _, _, _, h, _ => h
  | c :: cs, S, S', us, h, hk => by
    obtain ⟨u, us', e, ha, hs⟩ := h
    exact ⟨u, us', e, ha.keep hk, AllTys.keep cs hs hk⟩
theorem TysAt.keep {w w' : World} {cs : List Ty} {S S' : Nat → Prop} {v : Value} (h : TysAt w cs S v) (hk : ∀ b, S b → b < w.heap.size → S' b ∧ w'.heap[b]? = w.heap[b]?) : TysAt w' cs S' v := by
  obtain ⟨us, ho, hS, ha⟩ := h
  exact ⟨us, ownsRow_keep ho fun g hg => (hk g (hS g hg) (ho.lt g hg).2).2, fun g hg => (hk g (hS g hg) (ho.lt g hg).2).1, AllTys.keep cs ha fun b hb hl => ⟨⟨(hk b hb.1 hl).1, hb.2⟩, (hk b hb.1 hl).2⟩⟩
theorem TysAt.below {w w' : World} {cs : List Ty} {S : Nat → Prop} {v : Value} (h : TysAt w cs S v) (hk : Below w.heap.size w w') : TysAt w' cs S v := h.keep fun b hb hl => ⟨hb, hk.block b hl⟩
theorem TysAt.drew {w : World} {cs : List Ty} {S : Nat → Prop} {v : Value} (h : TysAt w cs S v) : TysAt w.drew cs S v := h.keep fun _ hb _ => ⟨hb, rfl⟩
theorem TysAt.nil (w : World) (S : Nat → Prop) : TysAt w [] S (.slice none 0 0) := ⟨[], World.ownsRow_nil _ _ _ _, (fun g h => by simp [Value.ownBlock] at h), rfl⟩
theorem AllTys.length {w : World} : ∀ {cs : List Ty} {S : Nat → Prop} {us : List (Value × Value)}, AllTys w cs S us → us.length = cs.length
  | [], _, _, h => by rw [show _ = [] from h]; rfl
  | c :: cs, _, _, h => by obtain ⟨u, us', rfl, _, h'⟩ := h; simp [AllTys.length h']
theorem AllTys.snoc {w : World} : ∀ {cs : List Ty} {c : Ty} {S : Nat → Prop} {us : List (Value × Value)} {u : Value × Value}, AllTys w cs S us → TyAt w c S u.1 u.2 → AllTys w (cs ++ [c]) S (us ++ [u])
  | [], c, _, us, u, h, h' => by rw [show us = [] from h]; exact ⟨u, [], rfl, h', rfl⟩
  | a :: cs, c, _, _, u, h, h' => by
    obtain ⟨v, us', rfl, ha, hs⟩ := h
    exact ⟨v, us' ++ [u], rfl, ha, AllTys.snoc hs h'⟩
theorem tyRow_snoc : ∀ (cs : List Ty) (c : Ty) (us : List (Value × Value)) (u : Value × Value), us.length = cs.length → tyRow (cs ++ [c]) (us ++ [u]) = tyRow cs us ++ tyCells c u.1 u.2
  | [], c, [], u, _ => by simp [tyRow]
  | a :: cs, c, v :: us, u, h => by
    simp only [List.cons_append, tyRow, List.append_assoc]
    rw [tyRow_snoc cs c us u (by simpa using h)]
theorem tyRow_get : ∀ (cs : List Ty) (us : List (Value × Value)) (k : Nat) (c : Ty) (u : Value × Value) (j : Nat), cs[k]? = some c → us[k]? = some u → j < 5 → (tyRow cs us)[k * 5 + j]? = (tyCells c u.1 u.2)[j]?
  | [], _, k, t, u, j, h, _, _ => by simp at h
  | _ :: _, [], k, t, u, j, _, h, _ => by simp at h
  | a :: ks, b :: vs, 0, t, u, j, h, h', hj => by
    obtain rfl : a = t := by simpa using h
    obtain rfl : b = u := by simpa using h'
    rw [tyRow, Nat.zero_mul, Nat.zero_add, List.getElem?_append_left (by simpa [tyCells] using hj)]
  | a :: ks, b :: vs, k + 1, t, u, j, h, h', hj => by
    rw [tyRow, List.getElem?_append_right (by simp [tyCells]; omega)]
    have e : (k + 1) * 5 + j - (tyCells a b.1 b.2).length = k * 5 + j := by simp [tyCells]; omega
    rw [e]
    exact tyRow_get ks vs k t u j (by simpa using h) (by simpa using h') hj
theorem AllTys.get {w : World} : ∀ {cs : List Ty} {S : Nat → Prop} {us : List (Value × Value)}, AllTys w cs S us → ∀ {k : Nat} {c : Ty}, cs[k]? = some c → ∃ u, us[k]? = some u ∧ TyAt w c S u.1 u.2
  | [], _, _, _, k, t, h => by simp at h
  | a :: ts, S, vs, h, 0, t, hk => by
    obtain ⟨v, vs', rfl, ht, _⟩ := h
    obtain rfl : a = t := by simpa using hk
    exact ⟨v, rfl, ht⟩
  | a :: ts, S, vs, h, k + 1, t, hk => by
    obtain ⟨v, vs', rfl, _, hts⟩ := h
    obtain ⟨u, hu, ht⟩ := AllTys.get hts (k := k) (c := t) (by simpa using hk)
    exact ⟨u, by simpa using hu, ht⟩
theorem TysAt.slice {w : World} {cs : List Ty} {S : Nat → Prop} {v : Value} (h : TysAt w cs S v) : ∃ a c, v = .slice a cs.length c := by
  obtain ⟨_, ho, _⟩ := h
  rcases ho.2 with ⟨rfl, h0⟩ | ⟨g, cap, _, rfl, _⟩
  · exact ⟨_, _, by rw [h0]⟩
  · exact ⟨_, _, rfl⟩
/- A type in the slice. -/
theorem TysAt.form {w : World} {cs : List Ty} {S : Nat → Prop} {v : Value} (h : TysAt w cs S v) : (v = .slice none 0 0 ∧ cs = []) ∨ ∃ g cap, v = .slice (some ⟨g, 0, none⟩) cs.length cap ∧ (S g ∧ g < w.heap.size) ∧ cs.length ≤ cap ∧ cap ≤ maxLen ∧
    ∀ k c, cs[k]? = some c → ∃ p l, w.rangeAt g (k * 5) (tyCells c p l) ∧ TyAt w c S p l := by
  obtain ⟨us, ho, hS, hts⟩ := h
  have ho' := ho
  rcases ho.2 with ⟨rfl, h0⟩ | ⟨g, cap, cur, rfl, hb, hg, hnc, hcm, hcs, htake⟩
  · exact .inl ⟨rfl, List.eq_nil_of_length_eq_zero h0⟩
  · refine .inr ⟨g, cap, rfl, ⟨hS g rfl, (Array.getElem?_eq_some_iff.1 hg).1⟩, hnc, hcm, fun k c hk => ?_⟩
    obtain ⟨u, hu, ht⟩ := hts.get hk
    refine ⟨u.1, u.2, fun j x hj => ?_, ht.keep fun b hb hl => ⟨hb.1, rfl⟩⟩
    have hj5 : j < 5 := by have := (List.getElem?_eq_some_iff.1 hj).1; simpa [tyCells] using this
    have hlt : k < cs.length := (List.getElem?_eq_some_iff.1 hk).1
    rw [ho'.cellAt (k * 5 + j) (by omega), tyRow_get cs us k c u j hk hu hj5]
    exact hj
theorem tyRow_length {w : World} : ∀ {cs : List Ty} {S : Nat → Prop} {us : List (Value × Value)}, AllTys w cs S us → (tyRow cs us).length = cs.length * 5
  | [], _, _, _ => by simp [tyRow]
  | c :: cs, _, _, h => by
    obtain ⟨u, us', rfl, _, hs⟩ := h
    simp only [tyRow, List.length_append, tyRow_length hs, List.length_cons]
    show 5 + _ = _
    omega
/- append of one type that lies in a new block. -/
theorem wp_append_ty {P : Program} {o : Oper} {a : Act} {w : World} {K : Act → World → Prop} {Q : Exit → Act → World → Prop} (s x : Operand) {t : TypeId} (ho : o.op = .call { callee := .builtin .append, args := #[s, x], argTypes := #[t, t] })
    {i : TypeInfo} {z : Value} (I : RowInfo P t 50 5 80 i z) {cs : List Ty} {c : Ty} {S : Nat → Prop} {v p l : Value} (hs : a.eval s = v) (hk : TysAt w cs S v) (hS : S w.heap.size) {b cc : Nat} (hx : a.eval x = .slice (some ⟨b, 0, none⟩) 1 cc)
    (hg : Blk w b (tyCells c p l) 50) (hc : TyAt w c (fun b => S b ∧ v.ownBlock ≠ some b) p l) (hb : cs.length + 1 ≤ 2000000)
    (h : ∀ v' w', TysAt w' (cs ++ [c]) S v' → w.grownBy w' v.ownBlock → (v'.ownBlock = v.ownBlock ∨ v'.ownBlock = some w.heap.size) → K (a.put o.dst v') w') : o.wp P a w K Q := by
  obtain ⟨us, hown, hSv, hks⟩ := hk
  have hnews : ∀ j y, (tyCells c p l)[j]? = some y → w.cell? ((⟨b, 0, none⟩ : Addr).add j) = some y := fun j y hj => by rw [Addr.add_mid, Nat.zero_add, hg.cell j]; exact hj
  have hbb : (cs.length + 1) * 80 ≤ 140737488355328 := by omega
  obtain ⟨v', w', hr, ho', hg', _⟩ := run_append_own (P := P) w 0 t o.type 50 i z 5 80 I.ht I.hi I.hz I.size I.bytes I.zs (by decide) v cs.length (tyRow cs us) hown ⟨b, 0, none⟩ 1 cc (tyCells c p l) rfl hnews hc.one (by unfold maxLen; omega) hbb (Nat.zero_le _)
  have hbk := append_blockN (ty := o.type) I.ht I.hi I.hz I.size I.bytes hown (by omega) rfl hnews hc.one (by unfold maxLen; omega) hbb hr
  unfold Oper.wp execOp
  simp only [ho, resolve, invoke, builtin, Sem.run_bind, Sem.run_pure, Result.andThen_ok, List.map_toArray, List.map_cons, List.map_nil, hs, hx]
  rw [hr]
  have keep : ∀ b, (S b ∧ v.ownBlock ≠ some b) → b < w.heap.size → (S b ∧ v'.ownBlock ≠ some b) ∧ w'.heap[b]? = w.heap[b]? := fun b hb hl => by
    refine ⟨⟨hb.1, fun h => ?_⟩, hg'.block b hl (Ne.symm hb.2)⟩
    rcases hbk with h' | h'
    · exact hb.2 (h' ▸ h)
    · rw [h'] at h; cases h; exact absurd hl (Nat.lt_irrefl _)
  refine h v' w' ⟨us ++ [(p, l)], ?_, ?_, ?_⟩ hg' hbk
  · rw [tyRow_snoc _ _ _ _ hks.length, List.length_append]
    exact ho'
  · intro g hg2
    rcases hbk with h | h
    · exact hSv g (h ▸ hg2)
    · rw [h] at hg2; cases hg2; exact hS
  · exact AllTys.snoc (AllTys.keep _ hks keep) (hc.keep keep)
theorem Tryd.tyInfo : ∃ i z, RowInfo Tryd.prog 43 50 5 80 i z := by
  have h : (Tryd.prog.info? 50).map (fun i => (i.zero, i.size, i.bytes)) = some (some (.agg #[.string ⟨#[]⟩, .int .i64 0, .int .i64 0, .slice none 0 0, .slice none 0 0]), 5, 80) := by kernel_rfl
  obtain ⟨i0, hi, hz0, hz1, hz2⟩ := info_parts h
  exact ⟨i0, _, Tryd.underlying43, hi, hz0, hz1, hz2, rfl⟩

/- The map of names: which types there are, by their first number. -/
def keyL (s : ByteArray) : Lit := .string s.data.toList
def MapAt (w : World) (b : Nat) (cs : List Ty) : Prop :=
  ∃ (n : Nat) (D : DataW Unit), w.ownsMap Tryd.prog 9 (plainElem Tryd.prog 3) b n D ∧ n ≤ cs.length ∧ IsMap D ∧ ∀ s : ByteArray, Maps.has D (keyL s) = (fndY cs s).isSome ∧ ∀ k, fndY cs s = some k → D.atKey (keyL s) (.lit (.int .i64 0)) = .lit (.int .i64 k)
theorem MapAt.kept {w w' : World} {b : Nat} {cs : List Ty} {row : Option Nat} (h : MapAt w b cs) (hg : w.grownBy w' row) (hne : some b ≠ row) : MapAt w' b cs := by
  obtain ⟨n, D, h1, h2, h3, h4⟩ := h
  exact ⟨n, D, h1.kept hg hne, h2, h3, h4⟩
theorem MapAt.lt {w : World} {b : Nat} {cs : List Ty} (h : MapAt w b cs) : b < w.heap.size := by
  obtain ⟨n, D, h1, _⟩ := h
  exact h1.lt
theorem MapAt.below {w w' : World} {b : Nat} {cs : List Ty} (h : MapAt w b cs) (hb : Below w.heap.size w w') : MapAt w' b cs :=
  h.kept (row := none) ⟨hb.os, hb.tape, hb.output, hb.size, fun k hk _ => hb.block k hk⟩ (by simp)
theorem keyL_eq (s u : ByteArray) : keyL s = keyL u ↔ s.toList = u.toList := by
  unfold keyL
  rw [ByteArray.toList_eq, ByteArray.toList_eq]
  simp
theorem lawStr : Keyed Tryd.prog 9 := string_keyed Tryd.underlying9
theorem zeroInt (w : World) : (zeroValue 3).run Tryd.prog w = .ok (.int .i64 0) w := by kernel_rfl

/- A look-up of a name. -/
theorem MapAt.look {w : World} {M : Nat} {cs : List Ty} (h : MapAt w M cs) {s : ByteArray} (hs : s.size ≤ maxLen) :
    ∃ c : Int, (∀ k, fndY cs s = some k → c = (k : Int)) ∧ ∀ W : World, W.heap[M]? = w.heap[M]? → (Instr.lookup 85 (.map (some M)) (.string s) true).run Tryd.prog W = .ok (.tuple #[.int .i64 c, .bool (fndY cs s).isSome]) W := by
  obtain ⟨n, D, ho, hn, hI, hD⟩ := h
  have hkey : keyOf Tryd.prog 9 (.string s) = some (keyL s) := WideMaps.keyOf_string_mk Tryd.underlying9 hs
  have one : ∀ W : World, W.heap[M]? = w.heap[M]? → ∃ c : Int, D.atKey (keyL s) (.lit (.int .i64 0)) = .lit (.int .i64 c) ∧ (Instr.lookup 85 (.map (some M)) (.string s) true).run Tryd.prog W = .ok (.tuple #[.int .i64 c, .bool (fndY cs s).isSome]) W := fun W hW => by
    have hoW : W.ownsMap Tryd.prog 9 (plainElem Tryd.prog 3) M n D := by
      obtain ⟨es, clock, hb, hr⟩ := ho
      exact ⟨es, clock, hW.trans hb, hr⟩
    obtain ⟨v, ps, hrun, hv⟩ := hoW.look_ok lawStr Tryd.underlying85 (zeroInt W) (plainElem_int Tryd.underlying3 (by decide)) hkey
    obtain ⟨c, rfl, hc, _⟩ := plainElem_int_inv Tryd.underlying3 hv
    refine ⟨c, congrArg Prod.fst hc, ?_⟩
    rw [hrun, (hD s).1]
  obtain ⟨c, hc, _⟩ := one w rfl
  refine ⟨c, fun k hk => ?_, fun W hW => ?_⟩
  · have h2 := (hD s).2 k hk
    rw [hc] at h2
    simpa using h2
  · obtain ⟨c', hc', hr⟩ := one W hW
    rw [hc] at hc'
    have e : c' = c := by simpa using hc'.symm
    rw [← e]
    exact hr
theorem MapAt.same {w w' : World} {M : Nat} {cs : List Ty} (h : MapAt w M cs) (e : w'.heap[M]? = w.heap[M]?) : MapAt w' M cs := by
  obtain ⟨n, D, ⟨es, clock, hb, hr⟩, h2⟩ := h
  exact ⟨n, D, ⟨es, clock, e.trans hb, hr⟩, h2⟩
/- A name more. -/
theorem MapAt.snoc {w1 : World} {M n : Nat} {cs : List Ty} {c : Ty} {D : DataW Unit} (hn : n ≤ cs.length) (hI : IsMap D) (hD : ∀ s : ByteArray, Maps.has D (keyL s) = (fndY cs s).isSome ∧ ∀ k, fndY cs s = some k → D.atKey (keyL s) (.lit (.int .i64 0)) = .lit (.int .i64 k))
    (ho : w1.ownsMap Tryd.prog 9 (plainElem Tryd.prog 3) M (n + 1) (D.put (keyL c.name) (.lit (.int .i64 (cs.length : Nat))))) (hf : fndY cs c.name = none) : MapAt w1 M (cs ++ [c]) := by
  refine ⟨n + 1, _, ho, by simp; omega, hI.put _ _, fun s => ?_⟩
  rw [fndY_snoc]
  by_cases he : c.name.toList = s.toList
  · have hk : keyL s = keyL c.name := (keyL_eq s c.name).2 he.symm
    have hs : fndY cs s = none := by
      have : ∀ l : List Ty, fndY l s = fndY l c.name := by
        intro l
        induction l with
        | nil => rfl
        | cons a l ih => show (bif a.name.toList == s.toList then some 0 else (fndY l s).map (· + 1)) = (bif a.name.toList == c.name.toList then some 0 else (fndY l c.name).map (· + 1)); rw [ih, he]
      rw [this]; exact hf
    have hb : (c.name.toList == s.toList) = true := by simpa using he
    rw [hs, hk, has_put_same hI (by unfold keyL; trivial)]
    refine ⟨by simp [hb], fun k hk2 => ?_⟩
    rw [atKey_put_same hI (by unfold keyL; trivial)]
    simp only [hb, cond_true, Option.some.injEq] at hk2
    rw [← hk2]
  · have hk : keyL s ≠ keyL c.name := fun e => he ((keyL_eq s c.name).1 e).symm
    have hb : (c.name.toList == s.toList) = false := by simpa using he
    rw [has_put_other hk, atKey_put_other hk, (hD s).1]
    cases hs : fndY cs s with
    | none => simp [hb]
    | some k =>
      refine ⟨rfl, fun k' hk' => ?_⟩
      have e : k = k' := Option.some.inj hk'
      rw [← e]
      exact (hD s).2 k hs


end Go.Proofs.YtdkdidgeaalcgaaDoor
