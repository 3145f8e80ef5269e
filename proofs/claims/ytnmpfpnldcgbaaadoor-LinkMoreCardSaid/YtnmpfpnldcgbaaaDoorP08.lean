/- A region that draws its order, when all but a chain of its operations yield in every world that meets a condition S: they are taken first, then the chain is walked in its one order. S is shown behind each operation of the chain but the last one (which may overwrite what S speaks of). Nothing of the program is walked here. append on a slice of trees: what comes of it holds the trees of both, in the row that was there or in a new one; all else is as it was. Nothing of the program is walked here. -/
import Derived.Test.YtnmpfpnldcgbaaaDoorP06
import Derived.OrdersHeld
import Derived.Deep.RegionHeld
import Derived.Laws.AppendOwn
import Derived.Laws.AppendOwnNone
namespace Go.Proofs.YtnmpfpnldcgbaaaDoor
section
open Go.RowKit

section
variable {P : Program} {ops : Array Oper} {Q : Exit → Act → World → Prop} {md : Region.Mode} {S : World → Prop}

/- Whatever order is picked from here on; and S holds behind each operation that leaves another one to come. -/
def AnyE (P : Program) (md : Region.Mode) (ops : Array Oper) (Q : Exit → Act → World → Prop) (S : World → Prop) : Nat → Array Bool → Act → World → Prop
  | 0, listed, a, w => Region.ready md ops listed = [] ∧ Q .normal a w
  | fuel + 1, listed, a, w =>
    (Region.ready md ops listed = [] → Q .normal a w) ∧
    ∀ i ∈ Region.ready md ops listed, wpOp P ops Q i (fun a' w' => (i + 1 ≠ ops.size → S w') ∧ AnyE P md ops Q S fuel (listed.setIfInBounds i true) a' w') a w

theorem AnyE.any : ∀ (fuel : Nat) (listed : Array Bool) (a : Act) (w : World), AnyE P md ops Q S fuel listed a w → wpAny P md ops Q fuel listed a w
  | 0, _, _, _, h => h
  | fuel + 1, _, _, _, h => ⟨h.1, fun i hi => wpOp_mono (fun a' w' h' => AnyE.any fuel _ a' w' h'.2) (h.2 i hi)⟩

/- Does the last operation wait for that one? -/
def lastWaits (md : Region.Mode) (ops : Array Oper) (i : Nat) : Bool :=
  match ops[ops.size - 1]? with
  | some o => o.after.any fun e => Region.binds md e && e.on == i
  | none => false

theorem AnyE.first {i : Nat} {oi : Oper} {v : Value} (hi : ops[i]? = some oi) (hlw : lastWaits md ops i = true) (hsel : ∀ (j : Nat) (o : Oper) cs b, ops[j]? = some o → o.op ≠ .select cs b)
    (hQ : ∀ c a w, Q (.panic c) (a.put oi.dst v) w → Q (.panic c) a w) :
    ∀ (fuel : Nat) (listed : Array Bool) (a : Act) (w : World),
      (∀ j oj, ops[j]? = some oj → j ≠ i → listed.getD j true = false → (∀ e ∈ oj.after, Region.binds md e = true → e.on ≠ i) → oi.apart ops oj = true) →
      i ∈ Region.ready md ops listed → YieldsIf P ops S oi v a → S w →
      AnyE P md ops Q S fuel (listed.setIfInBounds i true) (a.put oi.dst v) w → AnyE P md ops Q S (fuel + 1) listed a w := by
  intro fuel
  induction fuel with
  | zero =>
    intro listed a w _ hr hy hS H
    refine ⟨fun h => (by rw [h] at hr; cases hr), fun j hj => ?_⟩
    by_cases hji : j = i
    · subst hji; exact hy.wpOp hi hS ⟨fun _ => hS, H⟩
    · have := ready_mono hj hji
      rw [H.1] at this
      cases this
  | succ fuel ih =>
    intro listed a w hfree hr hy hS H
    refine ⟨fun h => (by rw [h] at hr; cases hr), fun j hj => ?_⟩
    by_cases hji : j = i
    · subst hji; exact hy.wpOp hi hS ⟨fun _ => hS, H⟩
    · have h0 := (mem_ready.1 hr).1
      have hun : (listed.setIfInBounds j true).getD i true = false := by rw [getD_set_ne true hji]; exact h0
      obtain ⟨hjun, oj, hoj, hall⟩ := mem_ready.1 hj
      have hnot : ∀ e ∈ oj.after, Region.binds md e = true → e.on ≠ i := fun e he hb heq => by
        have h1 := hall e he hb
        rw [heq] at h1
        rcases Nat.lt_or_ge i listed.size with h' | h'
        · simp [h'] at h0 h1; rw [h0] at h1; cases h1
        · simp [Array.getElem?_eq_none h'] at h1
      have hfree' : ∀ k ok, ops[k]? = some ok → k ≠ i → (listed.setIfInBounds j true).getD k true = false →
          (∀ e ∈ ok.after, Region.binds md e = true → e.on ≠ i) → oi.apart ops ok = true := fun k ok hk hki hunk hno => by
        refine hfree k ok hk hki ?_ hno
        by_cases hjk : j = k
        · subst hjk; exact hjun
        · rw [getD_set_ne true hjk] at hunk; exact hunk
      have h1 := H.2 j (ready_mono hj hji)
      have h2 := wpOp_putIf hoj (hfree j oj hoj hji hjun hnot) (fun cs b => hsel i oi cs b hi) (fun cs b => hsel j oj cs b hoj) hQ hy h1
      have hlast : j + 1 ≠ ops.size := fun he => by
        have hj' : ops.size - 1 = j := by omega
        unfold lastWaits at hlw
        rw [hj', hoj] at hlw
        obtain ⟨k, hk, hb⟩ := Array.any_eq_true.1 hlw
        simp only [Bool.and_eq_true, beq_iff_eq] at hb
        exact hnot _ (Array.getElem_mem hk) hb.1 hb.2
      refine wpOp_mono (fun a' w' h3 => ?_) h2
      have hS' : S w' := h3.2.1 hlast
      refine ⟨fun _ => hS', ih (listed.setIfInBounds j true) a' w' hfree' (ready_mono hr (Ne.symm hji)) h3.1 hS' ?_⟩
      rw [Array.setIfInBounds_comm _ _ hji]
      exact h3.2.2

/- Take number i first. -/
theorem AnyE.take {i : Nat} {oi : Oper} {v : Value} {fuel : Nat} {listed : Array Bool} {a : Act} {w : World} (hi : ops[i]? = some oi) (hlw : lastWaits md ops i = true)
    (hs : Region.noSelect ops = true) (hf : Region.free md ops listed i = true) (hr : (Region.ready md ops listed).contains i = true)
    (hQ : ∀ c a w, Q (.panic c) (a.put oi.dst v) w → Q (.panic c) a w) (hy : YieldsIf P ops S oi v a) (hS : S w)
    (h : AnyE P md ops Q S fuel (listed.setIfInBounds i true) (a.put oi.dst v) w) : AnyE P md ops Q S (fuel + 1) listed a w :=
  AnyE.first hi hlw (Region.noSelect_spec hs) hQ fuel listed a w (Region.free_spec hi hf) (by simpa using hr) hy hS h

/- The one that may come up. -/
theorem AnyE.one {i : Nat} {o : Oper} {fuel : Nat} {listed : Array Bool} {a : Act} {w : World} (hr : Region.ready md ops listed = [i]) (ho : ops[i]? = some o) (hw : Region.wanted o (yielded ops a.tmps) = true)
    (h : ∀ K : Act → World → Prop, Shut (∀ a w, (i + 1 ≠ ops.size → S w) → AnyE P md ops Q S fuel (listed.setIfInBounds i true) a w → K a w) → o.wp P a w K Q) : AnyE P md ops Q S (fuel + 1) listed a w := by
  refine ⟨(fun h0 => by rw [hr] at h0; cases h0), fun j hj => ?_⟩
  rw [hr] at hj
  obtain rfl : j = i := by simpa using hj
  refine wpOp_step ho fun K' hK => ?_
  rw [if_pos hw]
  exact h K' fun a w hS hA => hK a w ⟨hS, hA⟩

theorem AnyE.done {listed : Array Bool} {a : Act} {w : World} (hr : Region.ready md ops listed = []) (h : Q .normal a w) : ∀ fuel, AnyE P md ops Q S fuel listed a w
  | 0 => ⟨hr, h⟩
  | _ + 1 => ⟨fun _ => h, by rw [hr]; simp⟩

theorem AnyE.begin {id : Nat} {a : Act} {w : World} (hm : P.follows .mixedOrders = true) (h : AnyE P .any ops Q S ops.size (Array.replicate ops.size false) a w.drew) : (Code.region id ops true).wp P Q a w :=
  wp_region_any hm (AnyE.any _ _ _ _ h)

theorem AnyE.begin2 {id : Nat} {a : Act} {w : World} (hm : P.follows .mixedOrders = true) (hS : S w.drew) (h : S w.drew → AnyE P .any ops Q S ops.size (Array.replicate ops.size false) a w.drew) : (Code.region id ops true).wp P Q a w :=
  AnyE.begin hm (h hS)

end
end

section
open Go.RowKit

theorem rowCells_append : ∀ (ks ts : List T) (vs us : List Value), vs.length = ks.length → rowCells (ks ++ ts) (vs ++ us) = rowCells ks vs ++ rowCells ts us
  | [], _, [], _, _ => rfl
  | k :: ks, ts, v :: vs, us, h => by
    simp only [List.cons_append, rowCells, List.append_assoc]
    rw [rowCells_append ks ts vs us (by simpa using h)]
theorem TsAt.length {e : TypeId} {w : World} : ∀ {ts : List T} {S : Nat → Prop} {vs : List Value}, TsAt e w ts S vs → vs.length = ts.length
  | [], _, _, h => by unfold TsAt at h; rw [h]; rfl
  | t :: ts, _, _, h => by
    unfold TsAt at h
    obtain ⟨v, vs', rfl, _, h'⟩ := h
    simp [TsAt.length h']
theorem TsAt.append {e : TypeId} {w : World} : ∀ {ks ts : List T} {S : Nat → Prop} {vs us : List Value}, TsAt e w ks S vs → TsAt e w ts S us → TsAt e w (ks ++ ts) S (vs ++ us)
  | [], _, _, _, _, h, h' => by unfold TsAt at h; rw [h]; exact h'
  | k :: ks, ts, _, _, us, h, h' => by
    unfold TsAt at h
    obtain ⟨v, vs', rfl, hk, hks⟩ := h
    show TsAt e w (k :: (ks ++ ts)) _ (v :: (vs' ++ us))
    unfold TsAt
    exact ⟨v, vs' ++ us, rfl, hk, TsAt.append hks h'⟩
theorem TAt.one' {e : TypeId} {w : World} {t : T} {S : Nat → Prop} {v : Value} (h : TAt e w t S v) : v.oneCell' = true := h.kat.one
theorem rowCells_one {e : TypeId} {w : World} : ∀ {ts : List T} {S : Nat → Prop} {vs : List Value}, TsAt e w ts S vs → ∀ u ∈ rowCells ts vs, u.oneCell' = true
  | [], _, _, _ => by intro u hu; simp [rowCells] at hu
  | t :: ts, _, _, h => by
    unfold TsAt at h
    obtain ⟨v, vs', rfl, ht, hts⟩ := h
    intro u hu
    simp only [rowCells, List.mem_append] at hu
    rcases hu with hu | hu
    · exact nodeCells_one t v ht.one' u hu
    · exact rowCells_one hts u hu
theorem rowCells_length {e : TypeId} {w : World} : ∀ {ts : List T} {S : Nat → Prop} {vs : List Value}, TsAt e w ts S vs → (rowCells ts vs).length = ts.length * 5
  | [], _, _, _ => by simp [rowCells]
  | t :: ts, _, _, h => by
    unfold TsAt at h
    obtain ⟨v, vs', rfl, _, hts⟩ := h
    simp only [rowCells, List.length_append, rowCells_length hts, List.length_cons]
    show 5 + _ = _
    omega

/- Where the row lies behind an append of one element or more. -/
theorem append_block {P : Program} {w : World} {t ty e : TypeId} {i : TypeInfo} {z : Value} {bytes : Nat} (ht : P.underlying t = some (.slice e)) (hi : P.info? e = some i) (hz : i.zero = some z) (hsize : i.size = 5) (hby : i.bytes = bytes)
    {v : Value} {n : Nat} {xs : List Value} (hown : w.ownsRow 0 e 5 v n xs) {a : Addr} {m c : Nat} {news : List Value} (hm : 0 < m) (hl : news.length = m * 5) (hnews : ∀ j u, news[j]? = some u → w.cell? (a.add j) = some u) (h1 : ∀ u ∈ news, u.oneCell' = true)
    (h63 : n + m ≤ maxLen) (hbytes : (n + m) * bytes ≤ 140737488355328) {v' : Value} {w' : World} (hr : (Builtin.append_ #[t, t] ty #[v, .slice (some a) m c]).run P w = .ok v' w') : v'.ownBlock = v.ownBlock ∨ v'.ownBlock = some w.heap.size := by
  subst hby
  have hsmall : n + m ≤ 9223372036854775807 := by simp only [maxLen] at h63; omega
  rw [← hsize] at hl
  rcases hown.2 with ⟨rfl, rfl⟩ | ⟨g, cap, cur, rfl, hbg, hg, hnc, hcm, hcs, htake⟩
  · have h := run_append_nil (P := P) w t ty e i z ht hi hz a m c news hl hnews hm (by omega) (by have hb := hbytes; simp only [Nat.zero_add] at hb; omega)
    rw [h] at hr
    cases hr
    exact .inr rfl
  · by_cases hroom : n + m ≤ cap
    · have hfit : n * i.size + news.length ≤ cur.size := by rw [hl, hcs, hsize, ← Nat.add_mul]; exact Nat.mul_le_mul_right _ hroom
      have h := run_append_room (P := P) w t ty e i ht hi g n cap cur hg a m c news hl hnews h1 hroom hfit
      rw [h] at hr
      cases hr
      exact .inl rfl
    · have h := run_append_grow (P := P) w t ty e i z ht hi hz ⟨g, 0, none⟩ n cap xs (by rw [hown.1, hsize]) (hown.cells (g := g) rfl) a m c news hl hnews (by omega) (by omega) (growslice_fits (by omega) hbytes)
      rw [h] at hr
      cases hr
      exact .inr rfl

/- What the law on append asks of the type of nodes. -/
structure NodeInfo (P : Program) (t e : TypeId) (i : TypeInfo) (z : Value) : Prop where
  ht : P.underlying t = some (.slice e)
  hi : P.info? e = some i
  hz : i.zero = some z
  size : i.size = 5
  bytes : i.bytes = 64
  zs : z.cells.size = 5

theorem run_append_trees {P : Program} {w : World} {t ty e : TypeId} {i : TypeInfo} {z : Value} (I : NodeInfo P t e i z) {ks ts : List T} {S : Nat → Prop} {v : Value} (hk : KAt e w ks S v) {us : List Value}
    (hts : TsAt e w ts (fun b => S b ∧ v.ownBlock ≠ some b) us) (hS : S w.heap.size) {a : Addr} {c : Nat} (hm : 0 < ts.length) (hnews : ∀ j u, (rowCells ts us)[j]? = some u → w.cell? (a.add j) = some u) (hb : ks.length + ts.length ≤ 100000) :
    ∃ v' w', (Builtin.append_ #[t, t] ty #[v, .slice (some a) ts.length c]).run P w = .ok v' w' ∧ KAt e w' (ks ++ ts) S v' ∧ w.grownBy w' v.ownBlock ∧ (v'.ownBlock = v.ownBlock ∨ v'.ownBlock = some w.heap.size) := by
  obtain ⟨vs, hown, hSv, hks⟩ := hk
  obtain ⟨v', w', hr, ho', hg', _⟩ := run_append_own (P := P) w 0 t ty e i z 5 64 I.ht I.hi I.hz I.size I.bytes I.zs (by decide) v ks.length (rowCells ks vs) hown a ts.length c (rowCells ts us) (rowCells_length hts) hnews (rowCells_one hts)
    (by unfold maxLen; omega) (by omega) (Nat.zero_le _)
  have hbk := append_block (ty := ty) I.ht I.hi I.hz I.size I.bytes hown hm (rowCells_length hts) hnews (rowCells_one hts) (by unfold maxLen; omega) (by omega) hr
  refine ⟨v', w', hr, ⟨vs ++ us, ?_, ?_, ?_⟩, hg', hbk⟩
  · rw [rowCells_append _ _ _ _ (TsAt.length hks), List.length_append]
    exact ho'
  · intro g hg
    rcases hbk with h | h
    · exact hSv g (h ▸ hg)
    · rw [h] at hg; cases hg; exact hS
  · have keep : ∀ b, (S b ∧ v.ownBlock ≠ some b) → b < w.heap.size → (S b ∧ v'.ownBlock ≠ some b) ∧ w'.heap[b]? = w.heap[b]? := fun b hb hl => by
      refine ⟨⟨hb.1, fun h => ?_⟩, hg'.block b hl (Ne.symm hb.2)⟩
      rcases hbk with h' | h'
      · exact hb.2 (h' ▸ h)
      · rw [h'] at h; cases h; exact absurd hl (Nat.lt_irrefl _)
    exact TsAt.append (TsAt.keep ks hks keep) (TsAt.keep ts hts keep)

/- The operation. -/
theorem wp_append_trees {P : Program} {w : World} {o : Oper} {a : Act} {K : Act → World → Prop} {Q : Exit → Act → World → Prop} (s x : Operand) {t e : TypeId} (ho : o.op = .call { callee := .builtin .append, args := #[s, x], argTypes := #[t, t] })
    {i : TypeInfo} {z : Value} (I : NodeInfo P t e i z) {ks ts : List T} {S : Nat → Prop} {v : Value} (hs : a.eval s = v) (hk : KAt e w ks S v) {us : List Value}
    (hts : TsAt e w ts (fun b => S b ∧ v.ownBlock ≠ some b) us) (hS : S w.heap.size) {ad : Addr} {m c : Nat} (hx : a.eval x = .slice (some ad) m c) (hml : m = ts.length) (hm : 0 < ts.length) (hnews : ∀ j u, (rowCells ts us)[j]? = some u → w.cell? (ad.add j) = some u)
    (hb : ks.length + ts.length ≤ 100000)
    (h : ∀ v' w', KAt e w' (ks ++ ts) S v' → w.grownBy w' v.ownBlock → (v'.ownBlock = v.ownBlock ∨ v'.ownBlock = some w.heap.size) → K (a.put o.dst v') w') : o.wp P a w K Q := by
  subst hml
  obtain ⟨v', w', hr, h2, h3, h4⟩ := run_append_trees (ty := o.type) (c := c) I hk hts hS hm hnews hb
  unfold Oper.wp execOp
  simp only [ho, resolve, invoke, builtin, Sem.run_bind, Sem.run_pure, Result.andThen_ok, List.map_toArray, List.map_cons, List.map_nil, hs, hx, hr]
  exact h v' w' h2 h3 h4
theorem wpList_append_trees {P : Program} {w : World} {ops : Array Oper} {rest : List Oper} {o : Oper} {a : Act} {Q : Exit → Act → World → Prop} (hgd : o.guard = none) (s x : Operand) {t e : TypeId} (ho : o.op = .call { callee := .builtin .append, args := #[s, x], argTypes := #[t, t] })
    {i : TypeInfo} {z : Value} (I : NodeInfo P t e i z) {ks ts : List T} {S : Nat → Prop} {v : Value} (hs : a.eval s = v) (hk : KAt e w ks S v) {us : List Value}
    (hts : TsAt e w ts (fun b => S b ∧ v.ownBlock ≠ some b) us) (hS : S w.heap.size) {ad : Addr} {m c : Nat} (hx : a.eval x = .slice (some ad) m c) (hml : m = ts.length) (hm : 0 < ts.length) (hnews : ∀ j u, (rowCells ts us)[j]? = some u → w.cell? (ad.add j) = some u)
    (hb : ks.length + ts.length ≤ 100000)
    (h : ∀ v' w', KAt e w' (ks ++ ts) S v' → w.grownBy w' v.ownBlock → (v'.ownBlock = v.ownBlock ∨ v'.ownBlock = some w.heap.size) → wpList P ops Q rest (a.put o.dst v') w') : wpList P ops Q (o :: rest) a w :=
  wpList_plain hgd fun _ hK => wp_append_trees s x ho I hs hk hts hS hx hml hm hnews hb fun v' w' h2 h3 h4 => hK _ _ (h v' w' h2 h3 h4)

/- The cells of a literal of one tree, or two, in a new block. -/
theorem lit1_at (w : World) (e : TypeId) (t : T) (v : Value) : ∀ j u, (rowCells [t] [v])[j]? = some u → (w.alloc (.cells (nodeCells t v).toArray e)).cell? ((⟨w.heap.size, 0, none⟩ : Addr).add j) = some u := by
  intro j u hj
  rw [Addr.add_mid, Nat.zero_add, (Blk.new w (nodeCells t v) e).cell j]
  simpa [rowCells] using hj
theorem lit2_at (w : World) (e : TypeId) (t t' : T) (v v' : Value) : ∀ j u, (rowCells [t, t'] [v, v'])[j]? = some u → (w.alloc (.cells (nodeCells t v ++ nodeCells t' v').toArray e)).cell? ((⟨w.heap.size, 0, none⟩ : Addr).add j) = some u := by
  intro j u hj
  rw [Addr.add_mid, Nat.zero_add, (Blk.new w (nodeCells t v ++ nodeCells t' v') e).cell j]
  simpa [rowCells] using hj
theorem TsAt.single {e : TypeId} {w : World} {t : T} {S : Nat → Prop} {v : Value} (h : TAt e w t S v) : TsAt e w [t] S [v] := by
  unfold TsAt
  exact ⟨v, [], rfl, h, by unfold TsAt; rfl⟩
theorem TsAt.pair {e : TypeId} {w : World} {t t' : T} {S : Nat → Prop} {v v' : Value} (h : TAt e w t S v) (h' : TAt e w t' S v') : TsAt e w [t, t'] S [v, v'] := by
  unfold TsAt
  exact ⟨v, [v'], rfl, h, TsAt.single h'⟩

theorem Tryd.nodeInfo : ∃ i z, NodeInfo Tryd.prog 23 25 i z := by
  have h : (Tryd.prog.info? 25).map (fun i => (i.zero, i.size, i.bytes)) = some (some (.agg #[.int .i64 0, .string ⟨#[]⟩, .int .i64 0, .int .i64 0, .slice none 0 0]), 5, 64) := by kernel_rfl
  obtain ⟨i0, hi, hz0, hz1, hz2⟩ := info_parts h
  exact ⟨i0, _, Tryd.underlying23, hi, hz0, hz1, hz2, rfl⟩

/- The parser and what else is no part of the row is as it was behind an append. -/
theorem Run.grown {E : Env} {w W W' : World} {l : List Tok} {d : Nat} (h : Run E w W l d) {row : Option Nat} (hg : W.grownBy W' row) (hr : ∀ k, row = some k → w.heap.size ≤ k) : Run E w W' l d := by
  have hb : ∀ k, k < w.heap.size → W'.heap[k]? = W.heap[k]? := fun k hk => hg.block k (Nat.lt_of_lt_of_le hk h.kp.size) (fun e => by have := hr k e.symm; omega)
  exact ⟨⟨hg.os.trans h.kp.os, hg.tape.trans h.kp.tape, hg.output.trans h.kp.output, Nat.le_trans h.kp.size hg.size, fun k hk hn => (hb k hk).trans (h.kp.block k hk hn)⟩, h.st.same hg.size (hb _ h.lo) (hb _ h.lt), h.lo, h.lt⟩
theorem Blk.grown {w w' : World} {g : Nat} {cs : List Value} {t : TypeId} (h : Blk w g cs t) {row : Option Nat} (hg : w.grownBy w' row) (hn : some g ≠ row) : Blk w' g cs t := (hg.block g h.lt hn).trans h

theorem KAt.slice {e : TypeId} {w : World} {ks : List T} {S : Nat → Prop} {v : Value} (h : KAt e w ks S v) : ∃ a n c, v = .slice a n c := by
  obtain ⟨_, ho, _⟩ := h
  rcases ho.2 with ⟨rfl, _⟩ | ⟨g, cap, _, rfl, _⟩
  · exact ⟨_, _, _, rfl⟩
  · exact ⟨_, _, _, rfl⟩

theorem isT_lit (t : Tok) (l : List UInt8) : isT t (bs l) = (t.text.toList == l) := by
  unfold isT
  rw [ByteArray.toList_eq (bs l)]
  simp [bs]
theorem isT_yes {t : Tok} {l : List UInt8} (h : isT t (bs l) = true) : (t.text.toList == l) = true ∧ t.text.toList = l := by
  rw [isT_lit] at h
  exact ⟨h, beq_iff_eq.1 h⟩
theorem isT_no {t : Tok} {l : List UInt8} (h : isT t (bs l) = false) : (t.text.toList == l) = false ∧ ¬ t.text.toList = l := by
  rw [isT_lit] at h
  exact ⟨h, beq_eq_false_iff_ne.1 h⟩

theorem Blk.lt_kp {w w' : World} {g pb : Nat} {cs : List Value} {t : TypeId} (_ : Kp pb w w') (h : Blk w g cs t) : g < w.heap.size := h.lt
theorem KAt.lit1s {e : TypeId} {w : World} {t : T} {S : Nat → Prop} {v : Value} (h : TAt e w t S v) (a : Addr) (x : Value) (ha : ∀ b, S b → b ≠ a.block) (hS : S w.heap.size) :
    KAt e ((w.setCell a x).alloc (.cells (nodeCells t v).toArray e)) [t] S (.slice (some ⟨w.heap.size, 0, none⟩) 1 1) := by
  have h1 := KAt.lit1 (h.setCell a x ha) (by rw [show (w.setCell a x).heap.size = w.heap.size by simp [World.setCell]]; exact hS)
  rwa [show (w.setCell a x).heap.size = w.heap.size by simp [World.setCell]] at h1

theorem wp_store_blk {P : Program} {o : Oper} {a : Act} {w : World} {K : Act → World → Prop} {Q : Exit → Act → World → Prop} (ty : TypeId) (x y : Operand) (ho : o.op = .store ty x y)
    (g : Nat) (cells : List Value) (hx : a.eval x = .pointer (some ⟨g, 0, none⟩)) (hy : a.eval y = .agg cells.toArray)
    {t : TypeId} {old : List Value} (hg : Blk w g old t) (hi : (P.info? ty).map (·.size) = some cells.length)
    (hold : old.length = cells.length) (h1 : ∀ v ∈ cells, v.oneCell' = true)
    (h : K (a.put o.dst undef) (w.setRow g cells.toArray)) : o.wp P a w K Q :=
  wp_store_row ty x y ho g cells.toArray hx hy t old.toArray hg (by simpa using hi) (by simpa using hold) (all_oneCell_toArray h1) h

theorem ret_blk0 {P : Program} {fn : Func} {s : Tmp} {ty t : TypeId} (h : fn.results = #[.cell s ty]) {a : Act} {W : World} {g : Nat} {old cs : List Value} {d : TypeDesc} {R : Ending → World → Prop} (hs : a.tmps.getD s undef = .pointer (some ⟨g, 0, none⟩))
    (hb : Blk W g old t) (hu : P.underlying ty = some d) (hd : d.isRow = true) (hi : (P.info? ty).map (·.size) = some cs.length) (hdf : a.defers = []) (hR : R (.returned (.agg cs.toArray)) (W.setRow g cs.toArray)) :
    bodyPost P fn R .ret a (W.setRow g cs.toArray) :=
  bodyPost_ret (results_blk h hs (hb.rowSame cs) hu hd hi) hdf hR

theorem Run.nodeAt {E : Env} {w W : World} {l l' : List Tok} {d g : Nat} {r : R T} {t : T} {v : Value} (hg : w.heap.size ≤ g) (h : Run E w W l' d) (ht : TAt 25 W t (fun b => g < b) v) (hr : r = .ok (t, l')) (hl : l'.length < l.length) :
    PPost VNode E w l d r (.returned (NodeV t v)) (W.setRow g (nodeCells t v).toArray) :=
  .mk_ok hr rfl ⟨v, rfl, (ht.setRow _ _ (fun b hb => by omega)).mono (fun b hb _ => by omega)⟩ (h.setRow hg _).st hl (h.setRow hg _).kp

/- The same, of a method that may take no token. -/
def PPostE {α : Type} (V : World → Nat → α → Value → Prop) (E : Env) (w : World) (l : List Tok) (d : Nat) (r : R α) (e : Ending) (w' : World) : Prop :=
  match r with
  | .ok (a, l') => ∃ v, e = .returned v ∧ V w' w.heap.size a v ∧ PSt E w' l' d ∧ l'.length ≤ l.length ∧ Kp E.pb w w'
  | .error (p, c) => e = .panicked [{ v := faultV p c, recovered := false }] ∧ Kp E.pb w w' ∧ (c = 20 ∨ c = 21)
theorem PPostE.toP {α : Type} {V : World → Nat → α → Value → Prop} {E : Env} {w : World} {l l0 : List Tok} {d : Nat} {r : R α} {e : Ending} {w' : World} (h : PPostE V E w l d r e w') (hl : l.length < l0.length) : PPost V E w l0 d r e w' := by
  unfold PPostE at h
  unfold PPost
  cases r with
  | error pc => exact h
  | ok q =>
    obtain ⟨v, h1, h2, h3, h4, h5⟩ := h
    exact ⟨v, h1, h2, h3, by omega, h5⟩
theorem Run.nodeE {E : Env} {w W : World} {l l' : List Tok} {d : Nat} {r : R T} {t : T} {v : Value} (h : Run E w W l' d) (ht : TAt 25 W t (fun b => w.heap.size < b) v) (hr : r = .ok (t, l')) (hl : l'.length ≤ l.length) :
    PPostE VNode E w l d r (.returned (NodeV t v)) (W.setRow w.heap.size (nodeCells t v).toArray) := by
  rw [hr]
  exact ⟨_, rfl, ⟨v, rfl, (ht.setRow _ _ (fun b hb => by omega)).mono (fun b hb _ => by omega)⟩, (h.setRow (Nat.le_refl _) _).st, hl, (h.setRow (Nat.le_refl _) _).kp⟩
theorem Run.errE {α : Type} {V : World → Nat → α → Value → Prop} {E : Env} {w W : World} {l : List Tok} {d : Nat} {r : R α} {p : Nat} {c : Int} (hk : Kp E.pb w W) (hr : r = .error (p, c)) (hc : c = 20 ∨ c = 21) :
    PPostE V E w l d r (.panicked [{ v := faultV p c, recovered := false }]) W := by rw [hr]; exact ⟨rfl, hk, hc⟩
theorem Calls.weak {P : Program} {f : FuncId} {args : Array Value} {α : Type} {V : World → Nat → α → Value → Prop} {E : Env} {w : World} {l l0 : List Tok} {d : Nat} {r : R α} (h : Calls P f args w (PPostE V E w l d r)) (hl : l.length < l0.length) : Calls P f args w (PPost V E w l0 d r) :=
  h.mono fun _ _ hp => hp.toP hl

theorem makeFunc_run (fn : Fn) (first cap : Array Value) (w : World) : (Instr.makeFunc fn first cap).run Tryd.prog w = .ok (.func fn first cap) w := rfl
end

end Go.Proofs.YtnmpfpnldcgbaaaDoor
