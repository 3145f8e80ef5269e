/- has, must and name of the document's parser, each in ONE contract for every state. How what calls of the document's parser come to is put together: one behind the other, and behind a look at the next token. No conditions. The contract of lychgateref02.field. -/
import Derived.Test.YtnmpfpnldcgbaaaDoorRefFact
namespace Go.Proofs.YtnmpfpnldcgbaaaDoor
section
open Go.RowKit

def RHas (E : Env) (w : World) (d : Nat) (l : List Tok) (f : Int) (q : Nat) (s : ByteArray) (e : Ending) (w' : World) : Prop :=
  ∃ b lf, e = .returned (.bool b) ∧ RSt E w' lf d f q ∧ Kp E.pb w w' ∧ ((b = true ∧ (f == 0) = true ∧ isT (hdT l) s = true ∧ lf = l.tail) ∨ (b = false ∧ (f == 0 && isT (hdT l) s) = false ∧ lf = l))

theorem rhas_tot {E : Env} {w : World} {l : List Tok} {d : Nat} {f : Int} {q : Nat} (h : RSt E w l d f q) (s : ByteArray) (hs : keySign s = true) (hp : 0 < s.size) :
    Calls Tryd.prog 34 #[.pointer (some ⟨E.pb, 0, none⟩), .string s] w (RHas E w d l f q s) := by
  cases hc : (f == 0 && isT (hdT l) s) with
  | false => exact (rhas_no h s hs hc).mono fun _ _ ⟨he, hb⟩ => ⟨false, l, he, h.below hb, Kp.of_below hb, .inr ⟨rfl, hc, rfl⟩⟩
  | true =>
    have h1 : (f == 0) = true ∧ isT (hdT l) s = true := by simpa using hc
    have e : f = 0 := beq_iff_eq.1 h1.1
    subst e
    exact (rhas_yes h s hs hp h1.2).mono fun _ _ ⟨he, h2, h3⟩ => ⟨true, l.tail, he, h2, h3, .inl ⟨rfl, rfl, h1.2, rfl⟩⟩

def RMust (E : Env) (w : World) (d : Nat) (l : List Tok) (f : Int) (q : Nat) (s : ByteArray) (e : Ending) (w' : World) : Prop :=
  ∃ lf f' q', e = .returned (.tuple #[]) ∧ RSt E w' lf d f' q' ∧ Kp E.pb w w' ∧ ∃ t, Sees l f q (expectP [s] l) t lf f' q'

theorem rmust_tot {E : Env} {w : World} {l : List Tok} {d : Nat} {f : Int} {q : Nat} (h : RSt E w l d f q) (s : ByteArray) (hs : keySign s = true) (hp : 0 < s.size) :
    Calls Tryd.prog 36 #[.pointer (some ⟨E.pb, 0, none⟩), .string s] w (RMust E w d l f q s) := by
  cases hf : (f == 0) with
  | false => exact (rmust_bad h hf s hs).mono fun _ _ ⟨he, hb⟩ => ⟨l, f, q, he, h.below hb, Kp.of_below hb, hdT l, .inr ⟨hf, rfl, rfl, rfl⟩⟩
  | true =>
    have e : f = 0 := beq_iff_eq.1 hf
    subst e
    cases hi : isT (hdT l) s with
    | true =>
      have e1 : expectP [s] l = .ok (hdT l, l.tail) := by unfold expectP; simp [hi]
      exact (rmust_yes h s hs hp hi).mono fun _ _ ⟨he, h2, h3⟩ => ⟨l.tail, 0, q, he, h2, h3, hdT l, .inl ⟨rfl, .inl ⟨_, e1, rfl, rfl, rfl, by rw [List.length_tail]; omega⟩⟩⟩
    | false =>
      have e1 : expectP [s] l = .error ((hdT l).place, 20) := by unfold expectP; simp [hi]
      exact (rmust_no h s hs hi).mono fun _ _ ⟨he, h2, h3⟩ => ⟨l, 20, _, he, h2, h3, hdT l, .inl ⟨rfl, .inr ⟨_, _, e1, rfl, rfl, rfl⟩⟩⟩

theorem rname_tot {E : Env} {w : World} {l : List Tok} {d : Nat} {f : Int} {q : Nat} (h : RSt E w l d f q) :
    Calls Tryd.prog 55 #[.pointer (some ⟨E.pb, 0, none⟩)] w (RTot E w d l f q (nameTermP l)) := by
  cases hf : (f == 0) with
  | false => exact (rname_bad h hf).mono fun _ _ ⟨he, hb⟩ => ⟨zeroT, _, l, f, q, he, KAt.nil _ _ _, Nat.zero_le _, h.below hb, Kp.of_below hb, .inr ⟨hf, rfl, rfl, rfl⟩⟩
  | true =>
    have e : f = 0 := beq_iff_eq.1 hf
    subst e
    cases hk : ((hdT l).kind == 1) with
    | true =>
      have e1 : nameTermP l = .ok (.mk 5 (hdT l).text 0 (hdT l).place [], l.tail) := by unfold nameTermP nameP kindP; rw [hk]; rfl
      exact (rname_ok h hk).mono fun _ _ ⟨he, h2, h3⟩ => ⟨_, _, l.tail, 0, q, he, KAt.nil _ _ _, Nat.zero_le _, h2, h3, .inl ⟨rfl, .inl ⟨_, e1, rfl, rfl, rfl, by rw [List.length_tail]; omega⟩⟩⟩
    | false =>
      have e1 : nameTermP l = .error ((hdT l).place, 20) := by unfold nameTermP nameP kindP; rw [hk]; rfl
      exact (rname_no h hk).mono fun _ _ ⟨he, h2, h3⟩ => ⟨zeroT, _, l, 20, _, he, KAt.nil _ _ _, Nat.zero_le _, h2, h3, .inl ⟨rfl, .inr ⟨_, _, e1, rfl, rfl, rfl⟩⟩⟩
end

section
open Go.RowKit

theorem Sees.andThen {α β : Type} {l l1 l2 : List Tok} {f f1 f2 : Int} {q q1 q2 : Nat} {r : R α} {k : α → List Tok → R β} {t : α} {u : β} (h1 : Sees l f q r t l1 f1 q1) (h2 : Sees l1 f1 q1 (k t l1) u l2 f2 q2) : Sees l f q (bd r k) u l2 f2 q2 := by
  rcases h1 with ⟨e0, ⟨l0, r1, rfl, rfl, rfl, n1⟩ | ⟨p, c, r1, rfl, rfl, hc⟩⟩ | ⟨e0, rfl, rfl, rfl⟩
  · rcases h2 with ⟨e1, ⟨l0, r2, rfl, rfl, rfl, n2⟩ | ⟨p, c, r2, rfl, rfl, hc⟩⟩ | ⟨e1, _⟩
    · exact .inl ⟨e0, .inl ⟨_, (bd_ok r1 k).trans r2, rfl, rfl, rfl, by omega⟩⟩
    · exact .inl ⟨e0, .inr ⟨_, _, (bd_ok r1 k).trans r2, rfl, rfl, hc⟩⟩
    · cases e1
  · rcases h2 with ⟨e1, _⟩ | ⟨_, rfl, rfl, rfl⟩
    · rw [hc] at e1; cases e1
    · exact .inl ⟨e0, .inr ⟨_, _, bd_err r1 k, rfl, rfl, hc⟩⟩
  · rcases h2 with ⟨e1, _⟩ | ⟨_, rfl, rfl, rfl⟩
    · rw [e0] at e1; cases e1
    · exact .inr ⟨e0, rfl, rfl, rfl⟩

theorem Sees.done {α : Type} (l : List Tok) (f : Int) (q : Nat) (t : α) : Sees l f q (.ok (t, l)) t l f q := by
  cases hf : (f == 0) with
  | true => exact .inl ⟨hf, .inl ⟨l, rfl, rfl, beq_iff_eq.1 hf, rfl, Nat.le_refl _⟩⟩
  | false => exact .inr ⟨hf, rfl, rfl, rfl⟩

/- What is handed back is given another form. -/
theorem Sees.map {α β : Type} {l l1 : List Tok} {f f1 : Int} {q q1 : Nat} {r : R α} {t : α} (h : Sees l f q r t l1 f1 q1) (g : α → β) : Sees l f q (bd r fun a l => .ok (g a, l)) (g t) l1 f1 q1 := h.andThen (Sees.done l1 f1 q1 (g t))

/- In a state with a fault it makes no difference what is read, nor what is handed back. -/
theorem Sees.junk {α β : Type} {l l1 : List Tok} {f f1 : Int} {q q1 : Nat} {r : R α} {r' : R β} {t : α} {t' : β} (hf : (f == 0) = false) (h : Sees l f q r t l1 f1 q1) : Sees l f q r' t' l1 f1 q1 := by
  rcases h with ⟨e0, _⟩ | ⟨_, h1, h2, h3⟩
  · rw [hf] at e0; cases e0
  · exact .inr ⟨hf, h1, h2, h3⟩
theorem Sees.len {α : Type} {l l1 : List Tok} {f f1 : Int} {q q1 : Nat} {r : R α} {t : α} (h : Sees l f q r t l1 f1 q1) : f1 = 0 → l1.length ≤ l.length := by
  rcases h with ⟨e0, ⟨l0, r1, rfl, rfl, rfl, n1⟩ | ⟨p, c, r1, rfl, rfl, hc⟩⟩ | ⟨e0, rfl, rfl, rfl⟩
  · exact fun _ => n1
  · intro h
    subst h
    cases hc
  · exact fun _ => Nat.le_refl _
/- A fault stays. -/
theorem Sees.stays {α : Type} {l l1 : List Tok} {f f1 : Int} {q q1 : Nat} {r : R α} {t : α} (h : Sees l f q r t l1 f1 q1) (hf : (f1 == 0) = true) : (f == 0) = true := by
  rcases h with ⟨e0, _⟩ | ⟨e0, _, rfl, _⟩
  · exact e0
  · rw [e0] at hf; cases hf

theorem Sees.yes {α : Type} {l l1 : List Tok} {f f1 : Int} {q q1 : Nat} {c : Bool} {A B : R α} {t : α} (hc : c = true) (hf : (f == 0) = true) (h : Sees l.tail f q A t l1 f1 q1) : Sees l f q (bif c then A else B) t l1 f1 q1 := by
  rw [hc]
  rcases h with ⟨e0, ⟨l0, r1, rfl, rfl, rfl, n1⟩ | ⟨p, c, r1, rfl, rfl, hc⟩⟩ | ⟨e0, _⟩
  · exact .inl ⟨hf, .inl ⟨_, r1, rfl, rfl, rfl, by rw [List.length_tail] at n1; omega⟩⟩
  · exact .inl ⟨hf, .inr ⟨_, _, r1, rfl, rfl, hc⟩⟩
  · rw [hf] at e0; cases e0
/- The same where no token is taken. -/
theorem Sees.yes0 {α : Type} {l l1 : List Tok} {f f1 : Int} {q q1 : Nat} {c : Bool} {A B : R α} {t : α} (hc : c = true) (h : Sees l f q A t l1 f1 q1) : Sees l f q (bif c then A else B) t l1 f1 q1 := by
  rw [hc]
  exact h
theorem Sees.no {α : Type} {l l1 : List Tok} {f f1 : Int} {q q1 : Nat} {c : Bool} {A B : R α} {t : α} (hc : (f == 0 && c) = false) (h : Sees l f q B t l1 f1 q1) : Sees l f q (bif c then A else B) t l1 f1 q1 := by
  cases hf : (f == 0) with
  | true =>
    rw [hf] at hc
    have hc' : c = false := by simpa using hc
    rw [hc']
    exact h
  | false => exact h.junk hf

theorem name_map (l : List Tok) {α : Type} (g : T → α) (k : ByteArray → α) (hg : ∀ s, g (.mk 5 s 0 (hdT l).place []) = k s) : (bd (nameTermP l) fun a l => (.ok (g a, l) : R α)) = bd (nameP l) fun s l => .ok (k s, l) := by
  unfold nameTermP
  cases nameP l with
  | error e => rfl
  | ok x => obtain ⟨s, l1⟩ := x; show Except.ok (g _, _) = Except.ok (k s, l1); rw [hg]
end

section
open Go.RowKit

theorem RSt.far {E : Env} {w : World} {l : List Tok} {d : Nat} {f : Int} {q : Nat} (h : RSt E w l d f q) (a : Addr) (v : Value) (h1 : E.pb ≠ a.block) (h2 : E.tb ≠ a.block) : RSt E (w.setCell a v) l d f q :=
  h.same (by simp [World.setCell]) (Below.heap_setCell _ _ _ _ h1) (Below.heap_setCell _ _ _ _ h2)
def T.setKind (k : Int) (t : T) : T := .mk k t.text t.num t.place t.kids
def T.setKids (ks : List T) (t : T) : T := .mk t.kind t.text t.num t.place ks
theorem key91 : keySign (bs [91]) = true := by kernel_rfl
theorem key93 : keySign (bs [93]) = true := by kernel_rfl

theorem field_eq (l : List Tok) : fieldP l = bd (nameTermP l) fun n l1 => bif isT (hdT l1) (bs [91]) then bd (nameTermP l1.tail) fun a l2 => bd (expectP [bs [93]] l2) fun _ l3 => .ok ((n.setKind 3).setKids [a], l3) else .ok (n.setKind 3, l1) := by
  unfold fieldP nameTermP
  cases nameP l with
  | error e => rfl
  | ok x => rfl

set_option maxRecDepth 100000 in
set_option maxHeartbeats 4000000 in
theorem rfield_tot {E : Env} {w : World} {l : List Tok} {d : Nat} {f : Int} {q : Nat} (h : RSt E w l d f q) :
    Calls Tryd.prog 60 #[.pointer (some ⟨E.pb, 0, none⟩)] w (RTot E w d l f q (fieldP l)) := by
  have H := Lib.hid h
  have hplt := h.plt
  have htlt := h.tlt
  have H0 := Lib.hid (h.alloc (.cells zeroNodeCells.toArray 31))
  have HK0 := Lib.hid ((Kp.refl E.pb w).alloc (.cells zeroNodeCells.toArray 31))
  have HBr0 := Lib.hid (Blk.new w zeroNodeCells 31)
  have hzr0 := HBr0.out.lt
  clear h
  go_enter Tryd.func60, Tryd.ntmps60
  go_wp2_with fail
  refine (rname_tot H0.out).mono ?_
  rintro e w1 ⟨t1, vt1, l1, f1, q1, rfl, hk1, hn1, hs1, hp1, hsee1⟩
  have HBr1 := Lib.hid (HBr0.out.kp hp1 (by omega))
  have HK1 := Lib.hid (HK0.out.trans hp1)
  have hzr1 := HBr1.out.lt
  have HVt11 := Lib.hid (show KAt 31 w1 t1.kids (fun b => w.heap.size < b) vt1 from hk1.mono (fun b hb _ => by (try simp at hb); omega))
  have H1 := Lib.hid hs1
  have HS1 := Lib.hid hsee1
  clear hk1 hs1 hp1 hsee1
  unfold NodeV
  have HBm0 := Lib.hid (Blk.new w1 (nodeCells t1 vt1) 31)
  have n0 : (w1.alloc (.cells (nodeCells t1 vt1).toArray 31)).cell? ⟨w1.heap.size, 0, none⟩ = some (.int .i64 t1.kind) := HBm0.out.cell 0
  have nf0 := HBm0.out.frozen 0
  go_wp2_with (((with_reducible refine at_st 31 (.tmp 3) ?_); refine wpList_store_new rfl 31 (.tmp 3) (.tmp 7) rfl (nodeCells t1 vt1) (old := zeroNodeCells) rfl rfl Tryd.sizeRef rfl (nodeCells_one _ _ HVt11.out.one) ?_))
  have HBn1 := Lib.hid (Blk.new w1 (nodeCells (t1.setKind 3) vt1) 31)
  clear HBm0 n0 nf0
  have HVt12 := Lib.hid (HVt11.out.mono (S' := (fun b => w.heap.size < b ∧ b ≠ w1.heap.size)) (fun b hb hl => by omega))
  refine (rhas_tot (H1.out.alloc _) (bs [91]) key91 (by decide)).mono ?_
  rintro e w2 ⟨b2, l2, rfl, hs2, hp2, hc2⟩
  have HBr2 := Lib.hid ((HBr1.out.alloc _).kp hp2 (by omega))
  have HBn2 := Lib.hid (HBn1.out.kp hp2 (by omega))
  have HVt12 := Lib.hid ((HVt12.out.alloc _).kp hp2 (fun b hb => by omega))
  have HK2 := Lib.hid ((HK1.out.alloc _).trans hp2)
  have hzr2 := HBr2.out.lt
  have hzn2 := HBn2.out.lt
  have H2 := Lib.hid hs2
  have HC2 := Lib.hid hc2
  clear hs2 hp2 hc2
  rcases HC2.out with ⟨rfl, hf2, hi2, rfl⟩ | ⟨rfl, hx2, rfl⟩
  · go_wp2_with fail
    refine (rname_tot H2.out).mono ?_
    rintro e w3 ⟨t3, vt3, l3, f3, q3, rfl, hk3, hn3, hs3, hp3, hsee3⟩
    have HBr3 := Lib.hid (HBr2.out.kp hp3 (by omega))
    have HBn3 := Lib.hid (HBn2.out.kp hp3 (by omega))
    have HVt13 := Lib.hid (HVt12.out.kp hp3 (fun b hb => by omega))
    have HK3 := Lib.hid (HK2.out.trans hp3)
    have hzr3 := HBr3.out.lt
    have hzn3 := HBn3.out.lt
    have HVt33 := Lib.hid (show KAt 31 w3 t3.kids (fun b => w.heap.size < b ∧ b ≠ w1.heap.size) vt3 from hk3.mono (fun b hb _ => by (try simp at hb); omega))
    have H3 := Lib.hid hs3
    have HS3 := Lib.hid hsee3
    clear hk3 hs3 hp3 hsee3
    unfold NodeV
    have n4 : w3.cell? ⟨w1.heap.size, 4, none⟩ = some vt1 := HBn3.out.cell 4
    have nf4 := HBn3.out.frozen 4
    go_wp2_with (first | ((with_reducible refine at_st 31 (.tmp 5) ?_); refine wpList_store_new rfl 31 (.tmp 5) (.tmp 13) rfl (nodeCells t3 vt3) (old := zeroNodeCells) rfl rfl Tryd.sizeRef rfl (nodeCells_one _ _ HVt33.out.one) ?_) | ((with_reducible refine at_ld 31 (.tmp 5) ?_); refine wpList_load_node rfl 31 (.tmp 5) rfl w3.heap.size t3 vt3 rfl (Blk.new w3 _ _) Tryd.underlying31 rfl Tryd.sizeRef ?_))
    have hk1 := KAt.lit1 (e := 31) (w := ((w3.setCell ⟨w1.heap.size, 4, none⟩ (.slice (some ⟨w3.heap.size + 1, 0, none⟩) 1 1)).alloc (.cells (nodeCells t3 vt3).toArray 31))) (t := t3) (S := (fun b => w.heap.size < b ∧ b ≠ w1.heap.size)) (TAt.of_kids ((HVt33.out.setCell ⟨w1.heap.size, 4, none⟩ (.slice (some ⟨w3.heap.size + 1, 0, none⟩) 1 1) (fun b hb => by (try dsimp only); omega)).alloc _)) (by simp only [World.size_alloc, World.setCell, Array.size_modify]; omega)
    rw [show ((w3.setCell ⟨w1.heap.size, 4, none⟩ (.slice (some ⟨w3.heap.size + 1, 0, none⟩) 1 1)).alloc (.cells (nodeCells t3 vt3).toArray 31)).heap.size = w3.heap.size + 1 by simp [World.setCell]] at hk1
    have HVx3 := Lib.hid hk1
    clear hk1 n4 nf4
    refine (rmust_tot (((H3.out.far ⟨w1.heap.size, 4, none⟩ _ (by (try dsimp only); omega) (by (try dsimp only); omega)).alloc _).alloc _) (bs [93]) key93 (by decide)).mono ?_
    rintro e w4 ⟨l4, f4, q4, rfl, hs4, hp4, tk4, hsee4⟩
    have HBr4 := Lib.hid ((((HBr3.out.setOther ⟨w1.heap.size, 4, none⟩ _ (by (try dsimp only); omega)).alloc _).alloc _).kp hp4 (by omega))
    have HBn4 := Lib.hid ((((HBn3.out.setSame 4 _).alloc _).alloc _).kp hp4 (by omega))
    have HVx4 := Lib.hid (HVx3.out.kp hp4 (fun b hb => by omega))
    have HK4 := Lib.hid ((((HK3.out.setNew (p := ⟨w1.heap.size, 4, none⟩) (by (try dsimp only); omega) _).alloc _).alloc _).trans hp4)
    have hzr4 := HBr4.out.lt
    have hzn4 := HBn4.out.lt
    have H4 := Lib.hid hs4
    have HS4 := Lib.hid hsee4
    clear hs4 hp4 hsee4
    go_wp2_with (first | ((with_reducible refine at_ld 31 (.tmp 3) ?_); refine wpList_load_node rfl 31 (.tmp 3) rfl w1.heap.size ((t1.setKind 3).setKids [t3]) (.slice (some ⟨w3.heap.size + 1, 0, none⟩) 1 1) rfl HBn4.out Tryd.underlying31 rfl Tryd.sizeRef ?_) | ((with_reducible refine at_st 31 (.tmp 2) ?_); refine wpList_store_blk rfl 31 (.tmp 2) (.tmp 19) rfl w.heap.size (nodeCells ((t1.setKind 3).setKids [t3]) (.slice (some ⟨w3.heap.size + 1, 0, none⟩) 1 1)) rfl rfl HBr4.out Tryd.sizeRef rfl (nodeCells_one _ _ rfl) ?_))
    exact ret_blk (cs := nodeCells ((t1.setKind 3).setKids [t3]) (.slice (some ⟨w3.heap.size + 1, 0, none⟩) 1 1)) Tryd.results60 rfl HBr4.out Tryd.underlying31 rfl Tryd.sizeRef rfl
      ⟨((t1.setKind 3).setKids [t3]), _, l4, f4, q4, rfl, (HVx4.out.setRow w.heap.size _ (fun b hb => by omega)).mono (fun b hb _ => by omega), by show 1 ≤ 40000; decide, H4.out.same (by simp [World.setRow]) (setRow_other _ _ _ _ (by omega)) (setRow_other _ _ _ _ (by omega)), HK4.out.setRow (Nat.le_refl _) _, by rw [field_eq]; exact HS1.out.andThen (Sees.yes hi2 hf2 (HS3.out.andThen (HS4.out.andThen (Sees.done _ _ _ _))))⟩
  · go_wp2_with (first | ((with_reducible refine at_ld 31 (.tmp 3) ?_); refine wpList_load_node rfl 31 (.tmp 3) rfl w1.heap.size (t1.setKind 3) vt1 rfl HBn2.out Tryd.underlying31 rfl Tryd.sizeRef ?_) | ((with_reducible refine at_st 31 (.tmp 2) ?_); refine wpList_store_blk rfl 31 (.tmp 2) (.tmp 19) rfl w.heap.size (nodeCells (t1.setKind 3) vt1) rfl rfl HBr2.out Tryd.sizeRef rfl (nodeCells_one _ _ HVt12.out.one) ?_))
    exact ret_blk (cs := nodeCells (t1.setKind 3) vt1) Tryd.results60 rfl HBr2.out Tryd.underlying31 rfl Tryd.sizeRef rfl
      ⟨(t1.setKind 3), _, l2, f1, q1, rfl, (HVt12.out.setRow w.heap.size _ (fun b hb => by omega)).mono (fun b hb _ => by omega), hn1, H2.out.same (by simp [World.setRow]) (setRow_other _ _ _ _ (by omega)) (setRow_other _ _ _ _ (by omega)), HK2.out.setRow (Nat.le_refl _) _, by rw [field_eq]; exact HS1.out.andThen (Sees.no hx2 (Sees.done _ _ _ _))⟩
end

end Go.Proofs.YtnmpfpnldcgbaaaDoor
