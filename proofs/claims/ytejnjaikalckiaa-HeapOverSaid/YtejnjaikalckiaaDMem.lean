/- The contracts of diff.turned, slices.Clip, newDescent and behind. -/
import Derived.Test.YtejnjaikalckiaaDLeaf
import Derived.Laws.MakeOwn
import Derived.Laws.OwnMore
import Derived.RegionTactic
namespace Go.Proofs.Ytejnjaikalckiaa
open Go.RowKit

set_option maxHeartbeats 1000000 in
theorem turned_any (f : F) (w : World) (h0 : -8796093022208 ≤ f.c) (h1 : f.c ≤ 8796093022208) :
    Calls Try.prog 62 #[.agg #[.int .i64 f.x, .int .i64 f.y, .int .i64 f.c]] w fun e w' => e = .returned (.agg #[.int .i64 f.y, .int .i64 f.x, .int .i64 (-f.c - 1)]) ∧ Below w.heap.size w w' := by
  obtain ⟨x, y, c⟩ := f
  simp only at h0 h1
  go_enter Try.func62, Try.ntmps62
  go_wp2
  exact bodyPost_ret (v := .agg #[.int .i64 y, .int .i64 x, .int .i64 (-c - 1)]) (by simp [results, Try.results62, go_sem]) rfl ⟨rfl, by go_grown⟩

set_option maxHeartbeats 1000000 in
theorem clip_any (A : Option Addr) (n cap : Nat) (w : World) (h : n ≤ cap) (_hm : cap ≤ maxLen) :
    Calls Try.prog 61 #[.slice A n cap] w fun e w' => e = .returned (.slice A n n) ∧ w = w' := by
  unfold maxLen at _hm
  go_enter Try.func61, Try.ntmps61
  go_wp2
  go_ret
  exact ⟨rfl, rfl⟩

/- A block that is known whole. -/
def Blk (w : World) (g : Nat) (cs : List Value) (t : TypeId) : Prop := w.heap[g]? = some (.cells cs.toArray t (0, 0))
theorem Blk.lt {w : World} {g : Nat} {cs : List Value} {t : TypeId} (h : Blk w g cs t) : g < w.heap.size := (Array.getElem?_eq_some_iff.1 h).1
theorem Blk.new (w : World) (cs : List Value) (t : TypeId) : Blk (w.alloc (.cells cs.toArray t)) w.heap.size cs t := heap_alloc_new w _
theorem Blk.alloc {w : World} {g : Nat} {cs : List Value} {t : TypeId} (h : Blk w g cs t) (o : Obj) : Blk (w.alloc o) g cs t := (Below.heap_alloc w o g h.lt).trans h
theorem Blk.drew {w : World} {g : Nat} {cs : List Value} {t : TypeId} (h : Blk w g cs t) : Blk w.drew g cs t := h
theorem Blk.drewN {w : World} {g : Nat} {cs : List Value} {t : TypeId} (h : Blk w g cs t) (n : Nat) : Blk (w.drewN n) g cs t := h
theorem Blk.below {w w' : World} {B g : Nat} {cs : List Value} {t : TypeId} (h : Blk w g cs t) (hb : Below B w w') (hg : g < B) : Blk w' g cs t := (hb.block g hg).trans h
theorem Blk.far {w : World} {g : Nat} {cs : List Value} {t : TypeId} (h : Blk w g cs t) {p : Addr} (hp : g ≠ p.block) (u : Value) : Blk (w.setCell p u) g cs t := (Below.heap_setCell w p u g hp).trans h
theorem Blk.put {w : World} {g : Nat} {cs : List Value} {t : TypeId} (h : Blk w g cs t) (i : Nat) (u : Value) : Blk (w.setCell ⟨g, i, none⟩ u) g (cs.set i u) t := by
  unfold Blk at h ⊢
  simp [World.setCell, Array.getElem?_modify, h]
theorem Blk.cell {w : World} {g : Nat} {cs : List Value} {t : TypeId} (h : Blk w g cs t) (i : Nat) : w.cell? ⟨g, i, none⟩ = cs[i]? := by
  rw [cell_of_row w g i _ t (0, 0) h]
  simp
theorem Blk.frozen {w : World} {g : Nat} {cs : List Value} {t : TypeId} (h : Blk w g cs t) (i : Nat) : w.frozen? ⟨g, i, none⟩ = false := by
  unfold Blk at h
  simp [World.frozen?, h]

def ints (l : List Int) : List Value := l.map fun n => .int .i64 n
def nats (l : List Nat) : List Value := l.map fun (n : Nat) => .int .i64 (n : Int)
theorem intsGet (l : List Int) (i : Nat) (h : i < l.length) : (ints l)[i]? = some (.int .i64 (l.getD i 0)) := by
  unfold ints
  rw [List.getElem?_map, List.getElem?_eq_getElem h, List.getD_eq_getElem?_getD, List.getElem?_eq_getElem h]
  rfl
theorem natsGet (l : List Nat) (i : Nat) (h : i < l.length) : (nats l)[i]? = some (.int .i64 (l.getD i 0 : Nat)) := by
  unfold nats
  rw [List.getElem?_map, List.getElem?_eq_getElem h, List.getD_eq_getElem?_getD, List.getElem?_eq_getElem h]
  rfl
theorem intsSet (l : List Int) (i : Nat) (n : Int) : (ints l).set i (.int .i64 n) = ints (l.set i n) := by
  unfold ints
  rw [List.map_set]
theorem natsSet (l : List Nat) (i n : Nat) : (nats l).set i (.int .i64 n) = nats (l.set i n) := by
  unfold nats
  rw [List.map_set]

/- The descent in memory: its own block d, its numbers' block gn, its facts' numbers' block gb, all of them at or above base; the facts below base. -/
structure Env where
  base : Nat
  A : Option Addr
  cap : Nat
  fs : List F
  n : Nat
  d : Nat
  gn : Nat
  gb : Nat

structure DescAt (E : Env) (w : World) (s : St) : Prop where
  blk : Blk w E.d [.slice E.A E.fs.length E.cap, .slice (some ⟨E.gn, 0, none⟩) E.n E.n, .slice (some ⟨E.gb, 0, none⟩) E.n E.n] 129
  num : Blk w E.gn (ints s.num) 2
  br : Blk w E.gb (nats s.br) 3
  ln : s.num.length = E.n
  lb : s.br.length = E.n
  facts : FactsAt w E.base E.A E.fs
  bd : E.base ≤ E.d
  bn : E.base ≤ E.gn
  bb : E.base ≤ E.gb
  n1 : E.d ≠ E.gn
  n2 : E.d ≠ E.gb
  n3 : E.gn ≠ E.gb

theorem DescAt.below {E : Env} {w w' : World} {s : St} (h : DescAt E w s) (hb : Below w.heap.size w w') : DescAt E w' s :=
  ⟨h.blk.below hb h.blk.lt, h.num.below hb h.num.lt, h.br.below hb h.br.lt, h.ln, h.lb, h.facts.below hb (Nat.le_trans h.bd (Nat.le_of_lt h.blk.lt)), h.bd, h.bn, h.bb, h.n1, h.n2, h.n3⟩

theorem Try.infoI64 : (Try.prog.info? 2).map (fun i => (i.zero, i.size, i.bytes)) = some (some (.int .i64 0), 1, 8) := by kernel_rfl
theorem Try.infoInt : (Try.prog.info? 3).map (fun i => (i.zero, i.size, i.bytes)) = some (some (.int .i64 0), 1, 8) := by kernel_rfl

theorem run_make_ints {t e : TypeId} (ht : Try.prog.underlying t = some (.slice e)) (hi : (Try.prog.info? e).map (fun i => (i.zero, i.size, i.bytes)) = some (some (.int .i64 0), 1, 8)) (n : Nat) (hn : n ≤ 65536) (w : World) :
    (Instr.makeSlice t (.int .i64 (n : Int)) (.int .i64 (n : Int))).run Try.prog w = .ok (.slice (some ⟨w.heap.size, 0, none⟩) n n) (w.alloc (.cells (ints (List.replicate n 0)).toArray e)) := by
  obtain ⟨i, h1, h2, h3, h4⟩ := info_parts hi
  have hr := run_make (P := Try.prog) w t e i _ ht h1 h2 .i64 .i64 n n (by omega) (Int.le_refl _) (by rw [h4]; omega) (by omega)
  simp only [Int.toNat_natCast, h3, Nat.mul_one] at hr
  rw [hr]
  have e2 : madeCells (Value.int .i64 0).cells n = (ints (List.replicate n 0)).toArray := by
    have h := toList_madeCells_one (Value.int .i64 0) n
    rw [← Array.toList_inj]
    show (madeCells #[Value.int .i64 0] n).toList = _
    rw [h]
    simp [ints]
  rw [e2]

theorem below_drewN {B : Nat} {a w : World} (h : Below B a w) (n : Nat) : Below B a (w.drewN n) := ⟨h.os, h.tape, h.output, h.size, h.block⟩

theorem nats_zero (fs : List F) (n : Nat) : nats (runs fs n 0).br = ints (List.replicate n 0) := by
  simp [nats, ints, runs]

theorem three_blocks (w : World) (a b c : List Value) (ta tb tc : TypeId) :
    Blk (((w.alloc (.cells a.toArray ta)).alloc (.cells b.toArray tb)).alloc (.cells c.toArray tc)).drew w.heap.size a ta ∧ Blk (((w.alloc (.cells a.toArray ta)).alloc (.cells b.toArray tb)).alloc (.cells c.toArray tc)).drew (w.heap.size + 1) b tb ∧
    Blk (((w.alloc (.cells a.toArray ta)).alloc (.cells b.toArray tb)).alloc (.cells c.toArray tc)).drew (w.heap.size + 1 + 1) c tc := by
  refine ⟨((Blk.new w a ta).alloc _).alloc _, ?_, ?_⟩
  · have h := (Blk.new (w.alloc (.cells a.toArray ta)) b tb).alloc (.cells c.toArray tc)
    rwa [show (w.alloc (.cells a.toArray ta)).heap.size = w.heap.size + 1 by simp] at h
  · have h := Blk.new ((w.alloc (.cells a.toArray ta)).alloc (.cells b.toArray tb)) c tc
    rwa [show ((w.alloc (.cells a.toArray ta)).alloc (.cells b.toArray tb)).heap.size = w.heap.size + 1 + 1 by simp] at h
theorem three_below (w : World) (a b c : Obj) : Below w.heap.size w (((w.alloc a).alloc b).alloc c).drew :=
  (((((Below.refl _ _).alloc (Nat.le_refl _) _).alloc (by simp) _).alloc (by simp; omega) _)).drew

def NewPost (A : Option Addr) (cap : Nat) (fs : List F) (n : Nat) (w : World) (e : Ending) (w' : World) : Prop :=
  ∃ d gn gb, e = .returned (.pointer (some ⟨d, 0, none⟩)) ∧ DescAt ⟨w.heap.size, A, cap, fs, n, d, gn, gb⟩ w' (runs fs n 0) ∧ Below w.heap.size w w'

set_option maxHeartbeats 1000000 in
theorem new_any (n : Nat) (A : Option Addr) (cap : Nat) (fs : List F) (w : World) (hfs : FactsAt w w.heap.size A fs) (hn : n ≤ 96) :
    Calls Try.prog 64 #[.int .i64 n, .slice A fs.length cap] w (NewPost A cap fs n w) := by
  have HF := Lib.hid hfs
  clear hfs
  have hm1 := run_make_ints Try.underlying54 Try.infoI64 n (by omega)
  have hm2 := run_make_ints Try.underlying100 Try.infoInt n (by omega)
  go_enter Try.func64, Try.ntmps64
  go_wp2
  go_region
  all_goals go_wp2
  all_goals go_ret
  · obtain ⟨b0, b1, b2⟩ := three_blocks w (ints (List.replicate n 0)) (ints (List.replicate n 0)) [.slice A fs.length cap, .slice (some ⟨w.heap.size, 0, none⟩) n n, .slice (some ⟨w.heap.size + 1, 0, none⟩) n n] 2 3 129
    have hb := three_below w (.cells (ints (List.replicate n 0)).toArray 2) (.cells (ints (List.replicate n 0)).toArray 3) (.cells #[.slice A fs.length cap, .slice (some ⟨w.heap.size, 0, none⟩) n n, .slice (some ⟨w.heap.size + 1, 0, none⟩) n n] 129)
    refine ⟨w.heap.size + 1 + 1, w.heap.size, w.heap.size + 1, rfl, ⟨b2, b0, by rw [nats_zero]; exact b1, by simp [runs], by simp [runs], HF.out.below hb (Nat.le_refl _), ?_, ?_, ?_, ?_, ?_, ?_⟩, hb⟩ <;> simp
    all_goals omega
  · obtain ⟨b0, b1, b2⟩ := three_blocks w (ints (List.replicate n 0)) (ints (List.replicate n 0)) [.slice A fs.length cap, .slice (some ⟨w.heap.size + 1, 0, none⟩) n n, .slice (some ⟨w.heap.size, 0, none⟩) n n] 3 2 129
    have hb := three_below w (.cells (ints (List.replicate n 0)).toArray 3) (.cells (ints (List.replicate n 0)).toArray 2) (.cells #[.slice A fs.length cap, .slice (some ⟨w.heap.size + 1, 0, none⟩) n n, .slice (some ⟨w.heap.size, 0, none⟩) n n] 129)
    refine ⟨w.heap.size + 1 + 1, w.heap.size + 1, w.heap.size, rfl, ⟨b2, b1, by rw [nats_zero]; exact b0, by simp [runs], by simp [runs], HF.out.below hb (Nat.le_refl _), ?_, ?_, ?_, ?_, ?_, ?_⟩, hb⟩ <;> simp
    all_goals omega

set_option maxHeartbeats 1000000 in
theorem behind_any (E : Env) (s : St) (v : Nat) (w : World) (h : DescAt E w s) (hv : v < E.n) (hb : s.br.getD v 0 < E.fs.length) (_hn : E.n ≤ 96) (_hm : E.fs.length ≤ 768) (hy : 0 ≤ (E.fs.getD (s.br.getD v 0) zeroF).y) :
    Calls Try.prog 74 #[.pointer (some ⟨E.d, 0, none⟩), .int .i64 v] w fun e w' => e = .returned (.int .i64 (par E.fs s.br v)) ∧ Below w.heap.size w w' := by
  unfold par
  have c0 := h.blk.cell 0
  have c2 := h.blk.cell 2
  have cb := (h.br.cell v).trans (natsGet s.br v (by rw [h.lb]; exact hv))
  obtain ⟨b, off, hA, hlt, hc⟩ := h.facts (by omega)
  have hf : E.fs[s.br.getD v 0]? = some (E.fs.getD (s.br.getD v 0) zeroF) := by
    rw [List.getD_eq_getElem?_getD (l := E.fs), List.getElem?_eq_getElem hb]
    rfl
  obtain ⟨_, cy, _⟩ := hc _ _ hf
  rw [hA] at c0
  clear hc hf hA
  generalize s.br.getD v 0 = j at *
  simp only [List.getElem?_cons_zero, List.getElem?_cons_succ] at c0 c2
  have hv2 : (v : Int) < (E.n : Int) := by omega
  have hj2 : (j : Int) < (E.fs.length : Int) := by omega
  generalize (E.fs.getD j zeroF).y = Y at *
  obtain ⟨y, rfl⟩ := Int.eq_ofNat_of_zero_le hy
  rw [Int.toNat_natCast]
  clear h hlt
  go_enter Try.func74, Try.ntmps74
  go_wp2
  go_quiet (fail)
  go_wp2
  go_ret
  exact ⟨rfl, below_drewN (Below.refl _ _) _⟩

end Go.Proofs.Ytejnjaikalckiaa
