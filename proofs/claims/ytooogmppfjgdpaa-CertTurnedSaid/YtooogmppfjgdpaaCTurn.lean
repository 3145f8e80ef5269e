/- The contracts of slices.Clone and cert.withTurned. -/
import Derived.Test.YtooogmppfjgdpaaCHold2
import Derived.Test.YtooogmppfjgdpaaDApp
import Derived.Lib.SliceRun
namespace Go.Proofs.Ytooogmppfjgdpaa
open Go.RowKit

def ClonePost (fs : List F) (w : World) (e : Ending) (w' : World) : Prop :=
  ∃ A c, e = .returned (.slice A fs.length c) ∧ w'.ownsRow w.heap.size 35 3 (.slice A fs.length c) fs.length (factCells fs) ∧ Below w.heap.size w w'

theorem own_empty (w : World) (e : TypeId) : (w.alloc (.cells #[] e)).ownsRow w.heap.size e 3 (.slice (some ⟨w.heap.size, 0, none⟩) 0 0) 0 (factCells []) :=
  ⟨rfl, .inr ⟨w.heap.size, 0, #[], rfl, Nat.le_refl _, heap_alloc_new w _, Nat.le_refl _, Nat.zero_le _, rfl, rfl⟩⟩

set_option maxHeartbeats 1000000 in
theorem clone_any (A : Option Addr) (cap : Nat) (fs : List F) (w : World) (hfs : FactsAt w w.heap.size A fs) (hl : fs.length ≤ 4000000000) :
    Calls Try.prog 41 #[.slice A fs.length cap] w (ClonePost fs w) := by
  have HF := Lib.hid hfs
  clear hfs
  obtain ⟨i0, I⟩ := Try.leqInfo
  have hq := fun (w : World) (A : Option Addr) (n c : Nat) => Lib.run_eql_slice_nil (P := Try.prog) w 23 35 A n c 0 0 Try.underlying23
  rcases A with _ | ad
  · have h0 : fs = [] := by
      rcases fs with _ | ⟨f, l⟩
      · rfl
      · obtain ⟨_, _, e, _⟩ := HF.out (by simp)
        cases e
    subst h0
    clear HF
    go_enter Try.func41, Try.ntmps41
    go_wp2
    go_ret
    exact ⟨none, 0, rfl, World.ownsRow_nil _ _ _ _, Below.refl _ _⟩
  · go_enter Try.func41, Try.ntmps41
    go_wp2_with (at_builtin; refine wpList_append_facts (fs := []) rfl (.tmp 5) (.tmp 6) rfl I rfl (own_empty w _) rfl (HF.out.below (B' := w.heap.size) ((Below.refl _ _).alloc (Nat.le_refl _) _) (Nat.le_refl _)) rfl ?c3 ?c4 ?c5 ?_)
    case c3 => unfold maxLen; omega
    case c4 => omega
    case c5 => simp
    intro A' c' w3 hown3 hgrow3
    (try simp only [List.nil_append, Nat.zero_add] at hown3)
    (try simp only [Nat.zero_add])
    have HO3 := Lib.hid hown3
    have HB3 := Lib.hid (((Below.refl w.heap.size w).alloc (Nat.le_refl _) _).grown hgrow3 (by simp) (fun j hj => by cases hj; exact Nat.le_refl _))
    clear hown3 hgrow3
    go_wp2
    go_ret
    exact ⟨A', c', rfl, HO3.out, HB3.out⟩

set_option maxHeartbeats 4000000 in
theorem withTurned_any (g : F) (A : Option Addr) (cap : Nat) (fs : List F) (w : World) (hfs : FactsAt w w.heap.size A fs) (hl : fs.length ≤ 4000000000) (h0 : -8796093022208 ≤ g.c) (h1 : g.c ≤ 8796093022208) :
    Calls Try.prog 26 #[.agg #[.int .i64 g.x, .int .i64 g.y, .int .i64 g.c], .slice A fs.length cap] w (ClonePost (fs ++ [turnF g]) w) := by
  have HF := Lib.hid hfs
  clear hfs
  have hu1 : IntKind.i64.wrap (-g.c - 1) = -g.c - 1 := IntWalk.i64_in _ (by omega)
  obtain ⟨i0, I⟩ := Try.leqInfo
  go_enter Try.func26, Try.ntmps26
  go_wp2_with fail
  have HB0 := Lib.hid (((Below.refl w.heap.size w).alloc (Nat.le_refl _) (.cells #[.int .i64 g.x, .int .i64 g.y, .int .i64 g.c] 35)).alloc (by simp) (.cells #[.int .i64 g.y, .int .i64 g.x, .int .i64 (-g.c - 1)] 35))
  have g0 := (Blk.new (w.alloc (.cells #[.int .i64 g.x, .int .i64 g.y, .int .i64 g.c] 35)) [.int .i64 g.y, .int .i64 g.x, .int .i64 (-g.c - 1)] 35).cell 0
  have g1 := (Blk.new (w.alloc (.cells #[.int .i64 g.x, .int .i64 g.y, .int .i64 g.c] 35)) [.int .i64 g.y, .int .i64 g.x, .int .i64 (-g.c - 1)] 35).cell 1
  have g2 := (Blk.new (w.alloc (.cells #[.int .i64 g.x, .int .i64 g.y, .int .i64 g.c] 35)) [.int .i64 g.y, .int .i64 g.x, .int .i64 (-g.c - 1)] 35).cell 2
  simp only [List.getElem?_cons_zero, List.getElem?_cons_succ, World.size_alloc] at g0 g1 g2
  have hsz : ((w.alloc (.cells #[.int .i64 g.x, .int .i64 g.y, .int .i64 g.c] 35)).alloc (.cells #[.int .i64 g.y, .int .i64 g.x, .int .i64 (-g.c - 1)] 35)).heap.size = w.heap.size + 2 := by simp
  generalize hW : (w.alloc (.cells #[.int .i64 g.x, .int .i64 g.y, .int .i64 g.c] 35)).alloc (.cells #[.int .i64 g.y, .int .i64 g.x, .int .i64 (-g.c - 1)] 35) = W at *
  have hlt : w.heap.size + 1 < W.heap.size := by omega
  have hle : w.heap.size ≤ W.heap.size := by omega
  clear hsz
  go_region_held3 (fun w' => w'.cell? ⟨w.heap.size + 1, 0, none⟩ = some (.int .i64 g.y) ∧ w'.cell? ⟨w.heap.size + 1, 1, none⟩ = some (.int .i64 g.x) ∧ w'.cell? ⟨w.heap.size + 1, 2, none⟩ = some (.int .i64 (-g.c - 1)))
    (first | go_keep | exact ⟨g0, g1, g2⟩ | exact ⟨(HBX.out.cell (p := ⟨w.heap.size + 1, 0, none⟩) hlt).trans g0, (HBX.out.cell (p := ⟨w.heap.size + 1, 1, none⟩) hlt).trans g1, (HBX.out.cell (p := ⟨w.heap.size + 1, 2, none⟩) hlt).trans g2⟩ | exact ⟨(HBY.out.cell (p := ⟨w.heap.size + 1, 0, none⟩) hlt).trans g0, (HBY.out.cell (p := ⟨w.heap.size + 1, 1, none⟩) hlt).trans g1, (HBY.out.cell (p := ⟨w.heap.size + 1, 2, none⟩) hlt).trans g2⟩)
    (first
    | (go_simp; go_at_call 41; refine (clone_any A cap fs W.drew ((HF.out.below HB0.out (Nat.le_refl _)).more hle) hl).mono ?_; rintro e w1 ⟨A1, c1, rfl, hown1, hb1⟩; have HOX := Lib.hid hown1; have HBX := Lib.hid ((Below.refl W.heap.size W).drew.trans hb1); have hw1 : W.heap.size ≤ w1.heap.size := HBX.out.size; clear hown1 hb1)
    | (go_simp; go_at_call 41; refine (clone_any A cap fs (W.drew.alloc (.cells (fCells (turnF g)).toArray 35)) ((HF.out.below (HB0.out.drew.alloc hle _) (Nat.le_refl _)).more (by simp; omega)) hl).mono ?_; rintro e w1 ⟨A1, c1, rfl, hown1, hb1⟩; have HOX := Lib.hid (own_base (b := W.heap.size) hown1 (by simp)); have HLIT := Lib.hid ((FactsAt.lit W.drew (turnF g) 35 _ rfl).below hb1 (by simp)); have HBX := Lib.hid (((Below.refl W.heap.size W).drew.alloc (Nat.le_refl _) _).trans (hb1.mono (by simp))); have hw1 : W.heap.size ≤ w1.heap.size := HBX.out.size; clear hown1 hb1)
    | (refine step_append_facts rfl (.tmp 16) (.tmp 18) rfl I rfl (HOX.out.alloc _) rfl (FactsAt.lit w1 (turnF g) _ _ rfl) rfl (by unfold maxLen; omega) (by omega) (by simp; omega) ?_; intro A3 c3 w3 hown3 hgrow3; have HOY := Lib.hid hown3; have HBY := Lib.hid ((HBX.out.alloc hw1 _).grown hgrow3 (by simp; omega) (fun k hk => (HOX.out.lt k hk).1)); clear hown3 hgrow3)
    | (refine step_append_facts (gs := [turnF g]) rfl (.tmp 16) (.tmp 18) rfl I rfl HOX.out rfl HLIT.out rfl (by unfold maxLen; omega) (by omega) hw1 ?_; intro A3 c3 w3 hown3 hgrow3; have HOY := Lib.hid hown3; have HBY := Lib.hid (HBX.out.grown hgrow3 hw1 (fun k hk => (HOX.out.lt k hk).1)); clear hown3 hgrow3))
  all_goals
    go_wp2_with fail
    go_ret
    exact ⟨A3, c3, by simp, by simpa using own_base HOY.out hle, HB0.out.trans (HBY.out.mono hle)⟩

end Go.Proofs.Ytooogmppfjgdpaa
