/- Proved here: for every list of numbers and number that lychgatelaw05.CertTurned is called with, in every memory, the call returns true and its arguments read as before. No conditions. -/
import Derived.Test.YtooogmppfjgdpaaCClose
namespace Go.Proofs.Ytooogmppfjgdpaa
open Go.ChangeShapes Go.WideShapes Go.ChangeAt Go.RowKit

def clampT (z : Int) : Int := max (-1099511627776) (min z 1099511627776)
theorem clampT_bd (z : Int) : -1099511627776 ≤ clampT z ∧ clampT z ≤ 1099511627776 := by unfold clampT; omega
def ringF (zs : List Int) (n i : Nat) : F := ⟨i, ((i + 1) % n : Nat), clampT (zs.getD i 0)⟩
def rings (zs : List Int) (n k : Nat) : List F := (List.range k).map (ringF zs n)
def preT (zs : List Int) : Nat → Int
  | 0 => 0
  | k + 1 => preT zs k + clampT (zs.getD k 0)
theorem preT_bd (zs : List Int) : ∀ k : Nat, -1099511627776 * (k : Int) ≤ preT zs k ∧ preT zs k ≤ 1099511627776 * (k : Int)
  | 0 => by simp [preT]
  | k + 1 => by
    have h := preT_bd zs k
    have h2 := clampT_bd (zs.getD k 0)
    show -1099511627776 * ((k + 1 : Nat) : Int) ≤ preT zs k + clampT (zs.getD k 0) ∧ preT zs k + clampT (zs.getD k 0) ≤ 1099511627776 * ((k + 1 : Nat) : Int)
    omega
theorem rings_len (zs : List Int) (n k : Nat) : (rings zs n k).length = k := by simp [rings]
theorem rings_cells (zs : List Int) (n k : Nat) : factCells (rings zs n k) ++ fCells (ringF zs n k) = factCells (rings zs n (k + 1)) := by
  rw [show rings zs n (k + 1) = rings zs n k ++ [ringF zs n k] by simp [rings, List.range_succ], factCells_append]
  simp [factCells]
theorem rings_get (zs : List Int) (n i : Nat) (h : i < n) : (rings zs n n).getD i zeroF = ringF zs n i := by
  unfold rings
  rw [List.getD_eq_getElem?_getD, List.getElem?_map, List.getElem?_range h]
  rfl

/- The numbers of the facts, begun at the b-th. -/
def rot (n b m : Nat) : List Nat := (List.range m).map fun i => (i + b) % n
theorem rot_len (n b m : Nat) : (rot n b m).length = m := by simp [rot]
theorem rot_get (n b m i : Nat) (h : i < m) : (rot n b m).getD i 0 = (i + b) % n := by
  unfold rot
  rw [List.getD_eq_getElem?_getD, List.getElem?_map, List.getElem?_range h]
  rfl
theorem rot_succ (n b m : Nat) : rot n b (m + 1) = rot n b m ++ [(m + b) % n] := by simp [rot, List.range_succ]
theorem rot_twice (n b i : Nat) (h : i < n + n) : (rot n b n ++ rot n b n).getD i 0 = (i + b) % n := by
  by_cases hi : i < n
  · rw [List.getD_eq_getElem?_getD, List.getElem?_append_left (by rw [rot_len]; exact hi), ← List.getD_eq_getElem?_getD, rot_get n b n i hi]
  · rw [List.getD_eq_getElem?_getD, List.getElem?_append_right (by rw [rot_len]; omega), ← List.getD_eq_getElem?_getD, rot_len, rot_get n b n (i - n) (by omega)]
    rw [show i + b = (i - n + b) + n by omega, Nat.add_mod_right]

theorem good_rot {zs : List Int} {n b : Nat} (hn : 0 < n) {k : List Nat} (hk : ∀ i, i < k.length → ∃ j, k.getD i 0 = (j + b) % n) : Good (rings zs n n) k := by
  have hc : ∀ i, i < k.length → k.getD i 0 < n := fun i hi => by obtain ⟨j, e⟩ := hk i hi; rw [e]; exact Nat.mod_lt _ hn
  refine ⟨fun i hi => by rw [rings_len]; exact hc i hi, fun i hi => ?_, fun i hi => ?_⟩
  all_goals
    rw [rings_get zs n _ (hc i hi)]
    have := clampT_bd (zs.getD (k.getD i 0) 0)
    unfold ringF
    simp only
    omega

theorem sum_shift (g : Nat → Int) : ∀ n, ((List.range n).map (fun i => g (i + 1))).sum + g 0 = ((List.range n).map g).sum + g n
  | 0 => by simp
  | n + 1 => by
    have ih := sum_shift g n
    rw [sum_range_succ, sum_range_succ]
    omega
theorem sum_rot (c : Nat → Int) (n : Nat) : ∀ b, ((List.range n).map (fun i => c ((i + b) % n))).sum = ((List.range n).map c).sum
  | 0 => by
    congr 1
    apply List.map_congr_left
    intro i hi
    rw [Nat.add_zero, Nat.mod_eq_of_lt (by simpa using hi)]
  | b + 1 => by
    rw [← sum_rot c n b]
    have h := sum_shift (fun i => c ((i + b) % n)) n
    simp only [Nat.zero_add, Nat.add_mod_left] at h
    have e : (List.range n).map (fun i => c ((i + (b + 1)) % n)) = (List.range n).map (fun i => c ((i + 1 + b) % n)) := by
      apply List.map_congr_left
      intro i _
      rw [show i + (b + 1) = i + 1 + b by omega]
    rw [e]
    omega
theorem preT_sum (zs : List Int) : ∀ n, preT zs n = ((List.range n).map fun i => clampT (zs.getD i 0)).sum
  | 0 => rfl
  | n + 1 => by
    rw [sum_range_succ, ← preT_sum zs n]
    rfl
theorem costs_rot (zs : List Int) (n b : Nat) (hn : 0 < n) : (costs (rings zs n n) (rot n b n)).sum = preT zs n := by
  rw [preT_sum, ← sum_rot (fun i => clampT (zs.getD i 0)) n b]
  unfold costs rot
  rw [List.map_map]
  congr 1
  apply List.map_congr_left
  intro i _
  show ((rings zs n n).getD ((i + b) % n) zeroF).c = _
  rw [rings_get zs n _ (Nat.mod_lt _ hn)]
  rfl

theorem ring_nx {zs : List Int} {n b m : Nat} (hn : 0 < n) {k : List Nat} (hl : k.length = m) (hm : m = n ∨ m = n + n) (hk : ∀ i, i < m → k.getD i 0 = (i + b) % n) :
    ∀ i, i < k.length → ((rings zs n n).getD (k.getD i 0) zeroF).y = ((rings zs n n).getD (k.getD ((i + 1) % k.length) 0) zeroF).x := by
  intro i hi
  rw [hl] at hi ⊢
  rw [hk i hi, hk _ (Nat.mod_lt _ (by omega)), rings_get zs n _ (Nat.mod_lt _ hn), rings_get zs n _ (Nat.mod_lt _ hn)]
  unfold ringF
  simp only
  congr 1
  rw [Nat.mod_add_mod]
  by_cases he : i + 1 < m
  · rw [Nat.mod_eq_of_lt he]
    congr 1
    omega
  · have e : i + 1 = m := by omega
    rw [e, Nat.mod_self, Nat.zero_add]
    rcases hm with h | h
    · rw [show i + b + 1 = b + n by omega, Nat.add_mod_right]
    · rw [show i + b + 1 = b + n + n by omega, Nat.add_mod_right, Nat.add_mod_right]

theorem once_iff (zs : List Int) (n b : Nat) (hn : 2 ≤ n) (h50 : n ≤ 50) : CircleP (natInts (rot n b n)) (rings zs n n) ↔ preT zs n < 0 := by
  have hg : Good (rings zs n n) (rot n b n) := good_rot (b := b) (by omega) fun i hi => ⟨i, rot_get n b n i (by rw [rot_len] at hi; exact hi)⟩
  unfold CircleP
  rw [circP_iff hg (by rw [rot_len]; omega), costs_rot zs n b (by omega)]
  constructor
  · rintro ⟨_, _, h⟩; exact h
  · intro h
    exact ⟨by rw [natInts_len, rot_len]; omega, ring_nx (by omega) (rot_len n b n) (.inl rfl) (fun i hi => rot_get n b n i hi), h⟩
theorem twice_iff (zs : List Int) (n b : Nat) (hn : 2 ≤ n) (h50 : n ≤ 50) : CircleP (natInts (rot n b n ++ rot n b n)) (rings zs n n) ↔ preT zs n < 0 := by
  have hl : (rot n b n ++ rot n b n).length = n + n := by rw [List.length_append, rot_len]
  have hg : Good (rings zs n n) (rot n b n ++ rot n b n) := good_rot (b := b) (by omega) fun i hi => ⟨i, rot_twice n b i (by rw [hl] at hi; exact hi)⟩
  have hs : (costs (rings zs n n) (rot n b n ++ rot n b n)).sum = preT zs n + preT zs n := by
    unfold costs
    rw [List.map_append, List.sum_append]
    have := costs_rot zs n b (by omega)
    unfold costs at this
    rw [this]
  unfold CircleP
  rw [circP_iff hg (by rw [hl]; omega), hs]
  constructor
  · rintro ⟨_, _, h⟩; omega
  · intro h
    exact ⟨by rw [natInts_len, hl]; omega, ring_nx (by omega) hl (.inr rfl) (fun i hi => rot_twice n b i hi), by omega⟩
theorem less_no (zs : List Int) (n b : Nat) (hn : 2 ≤ n) (hb : b < n) : ¬ CircleP (natInts (rot n b n).tail) (rings zs n n) := by
  rintro ⟨_, k, e, hc, _⟩
  obtain rfl : k = (rot n b n).tail := (natInts_inj e).symm
  have hl : (rot n b n).tail.length = n - 1 := by rw [List.length_tail, rot_len]
  have hget : ∀ i, i < n - 1 → (rot n b n).tail.getD i 0 = (i + 1 + b) % n := fun i hi => by
    rw [List.getD_eq_getElem?_getD, List.getElem?_tail, ← List.getD_eq_getElem?_getD, rot_get n b n (i + 1) (by omega)]
  have h := hc.nx (n - 2) (by rw [hl]; omega)
  rw [hl, show n - 2 + 1 = n - 1 by omega, Nat.mod_self, hget (n - 2) (by omega), hget 0 (by omega), rings_get zs n _ (Nat.mod_lt _ (by omega)), rings_get zs n _ (Nat.mod_lt _ (by omega))] at h
  unfold ringF at h
  simp only at h
  rw [Nat.mod_add_mod, show n - 2 + 1 + b + 1 = b + n by omega, Nat.add_mod_right, Nat.mod_eq_of_lt hb] at h
  have h' : b = (0 + 1 + b) % n := by omega
  by_cases hbn : b + 1 < n
  · rw [Nat.mod_eq_of_lt (by omega)] at h'
    omega
  · rw [show 0 + 1 + b = n by omega, Nat.mod_self] at h'
    omega

theorem NumsAt.tail {w : World} {B g : Nat} {a : Nat} {l : List Nat} (h : ∀ i, i < (a :: l).length → w.cell? ⟨g, i, none⟩ = some (.int .i64 ((a :: l).getD i 0 : Nat))) (hg : g < B) : NumsAt w B (some ⟨g, 1, none⟩) (natInts l) := fun _ =>
  ⟨g, 1, rfl, hg, fun i hi => by
    rw [natInts_len] at hi
    rw [natInts_get, Nat.add_comm 1 i, h (i + 1) (by simp; exact hi)]
    rfl⟩

theorem wpList_append_g {P : Program} {ops : Array Oper} {rest : List Oper} {o : Oper} {a : Act} {w : World} {Q : Exit → Act → World → Prop} (hwt : Region.wanted o (yielded ops a.tmps) = true) (s x : Operand) {t : TypeId} (ho : o.op = .call { callee := .builtin .append, args := #[s, x], argTypes := #[t, t] })
    {v u v' : Value} {w' : World} (hs : a.eval s = v) (hx : a.eval x = u) (hr : (Builtin.append_ #[t, t] o.type #[v, u]).run P w = .ok v' w') (h : wpList P ops Q rest (a.put o.dst v') w') : wpList P ops Q (o :: rest) a w := by
  unfold wpList
  rw [if_pos hwt]
  left
  unfold Oper.wp execOp
  simp only [ho, resolve, invoke, builtin, Sem.run_bind, Sem.run_pure, Result.andThen_ok, List.map_toArray, List.map_cons, List.map_nil, hs, hx, hr]
  exact h

theorem circ_own (fs : List F) (A : Option Addr) (cap k : Nat) (l : List Int) (AF : Option Addr) (capF m : Nat) (w : World) (hk : k = fs.length) (hm : m = l.length) (hf : FactsAt w w.heap.size AF fs) (hfl : fs.length ≤ maxLen) (hls : NumsAt w w.heap.size A l) (r : Bool) (hr : r = true ↔ CircleP l fs) :
    Calls Try.prog 10 #[.slice A m cap, .slice AF k capF] w fun e w' => e = .returned (.bool r) ∧ Below w.heap.size w w' := by
  subst hk
  subst hm
  refine (circle_cert AF capF fs A cap l w hf hfl hls).mono ?_
  rintro e w' ⟨r', rfl, hr', hb⟩
  rw [show r' = r by cases r <;> cases r' <;> simp_all]
  exact ⟨rfl, hb⟩

theorem nats_cells {w : World} {base g cap n : Nat} {t : TypeId} {c : List Nat} (h : w.ownsRow base t 1 (.slice (some ⟨g, 0, none⟩) n cap) n (nats c)) (hn : n = c.length) : ∀ i, i < c.length → w.cell? ⟨g, i, none⟩ = some (.int .i64 (c.getD i 0 : Nat)) := fun i hi => by
  rw [h.cellAt i (by omega), natsGet c i hi]

set_option maxHeartbeats 8000000 in
theorem certTurned_walk (A : Option Addr) (cap : Nat) (zs : List Int) (by0 : Int) (w : World) (hzs : NumsAt w w.heap.size A zs) (_hcap : zs.length ≤ cap) (hcm : cap ≤ maxLen) (_hby : cap * 8 ≤ 140737488351232) :
    Calls Try.prog 7 #[.slice A zs.length cap, .int .i64 by0] w fun e w' => e = .returned (.bool true) ∧ Below w.heap.size w w' := by
  unfold maxLen at hcm
  have HZ := Lib.hid hzs
  clear hzs
  obtain ⟨N, hN, hN1, hN2⟩ : ∃ N : Nat, (if (50 : Int) < (zs.length : Int) then (50 : Int) else (zs.length : Int)) = (N : Int) ∧ N ≤ 50 ∧ N ≤ zs.length := by
    by_cases h : 50 < zs.length
    · exact ⟨50, by rw [if_pos (by omega)]; rfl, by omega, by omega⟩
    · exact ⟨zs.length, by rw [if_neg (by omega)], by omega, by omega⟩
  go_enter Try.func7, Try.ntmps7
  go_wp2_with fail
  refine (wakes_any w).mono ?_
  rintro e w1 ⟨rfl, hb1⟩
  have HB1 := Lib.hid hb1
  have hw1 := hb1.size
  clear hb1
  by_cases h2 : N < 2
  · have h2' : (N : Int) < 2 := by omega
    go_wp2
    go_ret
    exact ⟨rfl, HB1.out⟩
  · have h2' : ¬ (N : Int) < 2 := by omega
    go_wp2_with fail
    clear hN
    go_loopw [6, 8, 20] (fun v su i wr => ∃ k : Nat, k ≤ N ∧ i = .int .i64 k ∧ su = .int .i64 (preT zs k) ∧ wr.ownsRow w.heap.size 35 3 v k (factCells (rings zs N k)) ∧ Below w.heap.size w wr) (fun _ _ i _ => N - (intOf i).toNat)
    case atStart => exact ⟨0, by omega, rfl, rfl, World.ownsRow_nil _ _ _ _, HB1.out⟩
    case round =>
      obtain ⟨k, hk, rfl, rfl, hown, hb⟩ := hrel
      have hpb := preT_bd zs k
      by_cases hlt : k < N
      · obtain ⟨b, off, hA, hbl, hcl⟩ := HZ.out (by omega)
        have c0 := (hb.cell (p := ⟨b, off + k, none⟩) hbl).trans (hcl k (by omega))
        subst hA
        have HPS : Hid (preT zs (k + 1) = preT zs k + clampT (zs.getD k 0)) := Lib.hid rfl
        have HCC := Lib.hid (rings_cells zs N k)
        have hcb := clampT_bd (zs.getD k 0)
        have HCF : Hid (ringF zs N k = ⟨k, ((k + 1) % N : Nat), clampT (zs.getD k 0)⟩) := Lib.hid rfl
        generalize zs.getD k 0 = z at *
        obtain ⟨m1, hm1⟩ : ∃ m1, (if (1099511627776 : Int) < z then (1099511627776 : Int) else z) = m1 := ⟨_, rfl⟩
        have hm2 : (if (-1099511627776 : Int) < m1 then m1 else (-1099511627776 : Int)) = clampT z := by
          rw [← hm1]
          unfold clampT
          split <;> split <;> omega
        generalize clampT z = cc at *
        generalize preT zs k = S at *
        have hz := hb.size
        have HO := Lib.hid hown
        have HB := Lib.hid hb
        have hk2 : (k : Int) < (zs.length : Int) := by omega
        have hlt2 : (k : Int) < (N : Int) := by omega
        clear hcl hb hown
        obtain ⟨i0, hi, hz0, hz1, hz2⟩ := info_parts Try.infoLeq
        obtain ⟨q, hq⟩ : ∃ q : Nat, ((k : Int) + 1) % (N : Int) = (q : Int) ∧ (k + 1) % N = q := ⟨(k + 1) % N, rfl, rfl⟩
        obtain ⟨hq, hq2⟩ := hq
        rw [hq2] at HCF
        clear hq2
        go_wp2_with (at_builtin; refine wpList_append_own _ rfl (.tmp 29) (.tmp 37) 23 rfl w.heap.size 35 i0 _ 3 24 Try.underlying23 hi hz0 hz1 hz2 rfl (by decide) _ _ _ rfl (HO.out.alloc _) ⟨wr.heap.size, 0, none⟩ 1 1 (fCells ⟨k, q, cc⟩) rfl rfl ?c1 ?c2 ?c3 ?c4 ?c5 ?_)
        case c1 => exact lit_cells wr ⟨k, q, cc⟩ _
        case c2 => exact one_cells _
        case c3 => unfold maxLen; omega
        case c4 => omega
        case c5 => simp; omega
        intro v' w2 hown2 hgrow2 _
        have HO2 := Lib.hid hown2
        have HB2 := Lib.hid ((HB.out.alloc hz _).grown hgrow2 (by simp; omega) (fun j hj => (HO.out.lt j hj).1))
        clear hown2 hgrow2 hm1 hm2 hq
        go_wp2
        go_roundw
        case rel => exact ⟨k + 1, by omega, by go_num, by rw [HPS.out], by rw [← HCC.out, HCF.out]; exact HO2.out, HB2.out⟩
        case measure => simp [intOf]; omega
      · have hke : k = N := by omega
        subst hke
        obtain ⟨A2, cap2, rfl, hc2, hm2⟩ := own_slice hown
        have HFS : Hid (FactsAt wr wr.heap.size A2 (rings zs k k)) := Lib.hid (FactsAt.of_own (by rw [rings_len]; exact hown))
        have HB := Lib.hid hb
        obtain ⟨M, hM⟩ : ∃ M : Nat, (if (0 : Int) < by0 then by0 else 0) = (M : Int) := by
          by_cases h : (0 : Int) < by0
          · exact ⟨by0.toNat, by rw [if_pos h]; omega⟩
          · exact ⟨0, by rw [if_neg h]; rfl⟩
        obtain ⟨B, hB, hBk⟩ : ∃ B : Nat, (M : Int) % (k : Int) = (B : Int) ∧ B < k := ⟨M % k, rfl, Nat.mod_lt _ (by omega)⟩
        have HONE := Lib.hid (once_iff zs k B (by omega) hN1)
        have HTWO := Lib.hid (twice_iff zs k B (by omega) hN1)
        have HLESS := Lib.hid (less_no zs k B (by omega) hBk)
        generalize preT zs k = S at *
        clear hb hown
        go_wp2_with fail
        rw [hB]
        clear hM hB
        go_loopw [7, 48] (fun v i wq => ∃ j : Nat, j ≤ k ∧ i = .int .i64 j ∧ wq.ownsRow wr.heap.size 3 1 v j (nats (rot k B j)) ∧ Below wr.heap.size wr wq) (fun _ i _ => k - (intOf i).toNat)
        case atStart => exact ⟨0, by omega, rfl, World.ownsRow_nil _ _ _ _, Below.refl _ _⟩
        case round =>
          rename World => wq
          obtain ⟨j, hj, rfl, hown, hb⟩ := hrel
          have HO := Lib.hid hown
          have HQ := Lib.hid hb
          have hz := hb.size
          clear hown hb
          by_cases hlt3 : j < k
          · obtain ⟨q, hq, hq2⟩ : ∃ q : Nat, ((j : Int) + (B : Int)) % (k : Int) = (q : Int) ∧ (j + B) % k = q := ⟨(j + B) % k, rfl, rfl⟩
            have HRS : Hid (nats (rot k B (j + 1)) = nats (rot k B j) ++ [.int .i64 (q : Int)]) := Lib.hid (by rw [rot_succ, hq2]; simp [nats])
            have hlt4 : (j : Int) < (k : Int) := by omega
            obtain ⟨i0, hi, hz0, hz1, hz2⟩ := info_parts Try.infoInt
            clear hq2
            go_wp2_with (at_builtin; refine wpList_append_own _ rfl (.tmp 51) (.tmp 57) 22 rfl wr.heap.size 3 i0 _ 1 8 Try.underlying22 hi hz0 hz1 hz2 rfl (by decide) _ _ _ rfl (HO.out.alloc _) ⟨wq.heap.size, 0, none⟩ 1 1 [.int .i64 (q : Int)] rfl rfl ?c1 ?c2 ?c3 ?c4 ?c5 ?_)
            case c1 =>
              intro j u hj
              rw [Addr.add_mid, Nat.zero_add, cell_of_row _ _ _ _ _ _ (heap_alloc_new wq _)]
              simpa using hj
            case c2 => intro u hu; simp at hu; subst hu; rfl
            case c3 => unfold maxLen; omega
            case c4 => omega
            case c5 => simp; omega
            intro v' w2 hown2 hgrow2 _
            have HO2 := Lib.hid hown2
            have HB2 := Lib.hid ((HQ.out.alloc hz _).grown hgrow2 (by simp; omega) (fun j hj => (HO.out.lt j hj).1))
            clear hown2 hgrow2 hq
            go_wp2
            go_roundw
            case rel => exact ⟨j + 1, by omega, by go_num, by rw [HRS.out]; exact HO2.out, HB2.out⟩
            case measure => simp [intOf]; omega
          · have hje : j = k := by omega
            subst hje
            obtain ⟨g, cap3, rfl, hg1, hg2⟩ := HO.out.form (by omega)
            obtain ⟨A', cap', hv', hl3, hm3⟩ := own_slice HO.out
            cases hv'
            have HCE := Lib.hid (nats_cells HO.out (rot_len j B j).symm)
            have HBQ := Lib.hid (HB.out.trans (HQ.out.mono HB.out.size))
            have HL3 := Lib.hid (NumsAt.of_own (cap := cap3) (A := some ⟨g, 0, none⟩) (c := rot j B j) (t := 3) (base := wr.heap.size) (w := wq) (by rw [rot_len]; exact HO.out))
            have HFQ := Lib.hid ((HFS.out.below HQ.out (Nat.le_refl _)).more hz)
            have hrl := rings_len zs j j
            go_wp2_with fail
            refine (circ_own (rings zs j j) (some ⟨g, 0, none⟩) cap3 _ (natInts (rot j B j)) A2 cap2 _ wq hrl.symm (by rw [natInts_len, rot_len]) HFQ.out (by rw [hrl]; unfold maxLen; omega) HL3.out (decide (S < 0)) (by rw [HONE.out]; simp)).mono ?_
            rintro e wa ⟨rfl, hba⟩
            have HBA := Lib.hid (HBQ.out.trans (hba.mono HBQ.out.size))
            have HFA := Lib.hid ((HFQ.out.below hba (Nat.le_refl _)).more hba.size)
            have hga : g < wa.heap.size := Nat.lt_of_lt_of_le hg2 hba.size
            have HCA : Hid (∀ i, i < (rot j B j).length → wa.cell? ⟨g, i, none⟩ = some (.int .i64 ((rot j B j).getD i 0 : Nat))) := Lib.hid fun i hi => (hba.cell (p := ⟨g, i, none⟩) hg2).trans (HCE.out i hi)
            have HOA := Lib.hid (own_below HO.out hba)
            have HQA := Lib.hid (HQ.out.trans (hba.mono hz))
            clear hba
            have td : (decide (S < 0) == decide (S < 0)) = true := by simp
            have HTL : Hid (NumsAt wa wa.heap.size (some ⟨g, 1, none⟩) (natInts (rot j B j).tail)) := Lib.hid (by
              obtain ⟨a, l, e⟩ : ∃ a l, rot j B j = a :: l := by
                match hm : rot j B j with
                | [] => have := rot_len j B j; rw [hm] at this; simp at this; omega
                | a :: l => exact ⟨a, l, rfl⟩
              have hca := HCA.out
              rw [e] at hca
              rw [e]
              exact NumsAt.tail hca hga)
            go_wp2_with fail
            refine (circ_own (rings zs j j) (some ⟨g, 1, none⟩) (cap3 - 1) _ (natInts (rot j B j).tail) A2 cap2 _ wa hrl.symm (by rw [natInts_len, List.length_tail, rot_len]) HFA.out (by rw [hrl]; unfold maxLen; omega) HTL.out false ⟨fun h => (by cases h), fun h => absurd h HLESS.out⟩).mono ?_
            rintro e wb ⟨rfl, hbb⟩
            have HBB := Lib.hid (HBA.out.trans (hbb.mono HBA.out.size))
            have HFB := Lib.hid ((HFA.out.below hbb (Nat.le_refl _)).more hbb.size)
            have HOB := Lib.hid (own_below HOA.out hbb)
            have HQB := Lib.hid (HQA.out.trans (hbb.mono HQA.out.size))
            have hgb : g < wb.heap.size := Nat.lt_of_lt_of_le hga hbb.size
            have hzb : wr.heap.size ≤ wb.heap.size := by omega
            clear hbb
            obtain ⟨i0, hi, hz0, hz1, hz2⟩ := info_parts Try.infoInt
            obtain ⟨v', wc, hr, hownc, hgrowc, _⟩ := run_append_own (P := Try.prog) wb wr.heap.size 22 22 3 i0 _ 1 8 Try.underlying22 hi hz0 hz1 hz2 rfl (by omega) (.slice (some ⟨g, 0, none⟩) j cap3) j (nats (rot j B j)) HOB.out ⟨g, 0, none⟩ j cap3 (nats (rot j B j)) (by simp [nats, rot_len]) (fun i u hu => by
              have hil : i < j := by have := (List.getElem?_eq_some_iff.1 hu).1; simpa [nats, rot_len] using this
              rw [Addr.add_mid, Nat.zero_add, HOB.out.cellAt i (by omega)]; exact hu) (fun u hu => by
              unfold nats at hu
              obtain ⟨_, _, rfl⟩ := List.mem_map.1 hu
              rfl) (by unfold maxLen; omega) (by omega) hzb
            obtain ⟨Ac, cc, rfl, hlc, hmc⟩ := own_slice hownc
            have HR := Lib.hid hr
            have hgl : Below wr.heap.size wb wc := (Below.refl _ _).grown hgrowc hzb (fun k hk => by cases hk; exact hg1)
            have HBC := Lib.hid (HBB.out.trans (hgl.mono HB.out.size))
            have HLC := Lib.hid (NumsAt.of_own (cap := cc) (A := Ac) (c := rot j B j ++ rot j B j) (t := 3) (base := wr.heap.size) (w := wc) (by rw [List.length_append, rot_len]; unfold nats at hownc ⊢; rw [List.map_append]; exact hownc))
            have HQC := Lib.hid (HQB.out.trans hgl)
            have HFC := Lib.hid ((HFS.out.below HQC.out (Nat.le_refl _)).more HQC.out.size)
            clear hr hownc hgrowc hgl
            go_wp2_with (refine wpList_append_g (by first | rfl | decide) (.tmp 74) (.tmp 75) rfl rfl rfl HR.out ?_)
            refine (circ_own (rings zs j j) Ac cc _ (natInts (rot j B j ++ rot j B j)) A2 cap2 _ wc hrl.symm (by rw [natInts_len, List.length_append, rot_len]) HFC.out (by rw [hrl]; unfold maxLen; omega) HLC.out (decide (S < 0)) (by rw [HTWO.out]; simp)).mono ?_
            rintro e wd ⟨rfl, hbd⟩
            have HBD := Lib.hid (HBC.out.trans (hbd.mono HBC.out.size))
            clear hbd
            go_wp2
            go_ret
            exact ⟨by first | rfl | simp, HBD.out⟩

theorem certTurned_reads (os : Os) {H : Type} (enc : TypeId × Value → H) : ∃ places, DataW.whole enc Try.prog ((World.holding Try.prog os ⟨#[], #[], []⟩).forCall (fun _ _ => 0) ⟨#[], #[Value.slice none 0 0, Value.int .i64 0], []⟩).memory Try.f7.params.toList Rows.certTurnedSpec.vars false #[Value.slice none 0 0, Value.int .i64 0].toList 8 = some ([.nil, .lit (.int .i64 0)], [], places) :=
  ⟨[], by kernel_rfl⟩

set_option maxRecDepth 100000 in
theorem certTurned_lifted (os : Os) (started : os.Started) (H : Type) (enc : TypeId × Value → H) (F : Stop.Interp) :
    ReturnsInHanded {} Try.checked os 7 .any ((OpenSpec.ofChange Rows.certTurnedSpec).preRow enc Try.prog Try.f7 Rows.certTurnedRow.domain false Rows.certTurnedRow.laid) (((OpenSpec.ofChange Rows.certTurnedSpec).at F).post enc Try.prog Try.f7 false true false false) := by
  obtain ⟨places, hx⟩ := certTurned_reads os enc
  refine returnsInHanded_of_row (C := Try.checked) (s := OpenSpec.ofChange Rows.certTurnedSpec) own started (by kernel_rfl) Try.func7
    (witness_row_at (enc := enc) (C := Try.checked) false (World.holding Try.prog os ⟨#[], #[], []⟩) #[Value.slice none 0 0, Value.int .i64 0] rfl (by kernel_rfl) (by kernel_rfl) (by kernel_rfl)
      (OpenSpec.preRow_of_cond 8 hx (by kernel_rfl) (fun k hk => by cases hk) (by kernel_rfl) (laidMet_of_run' 8 (by kernel_rfl) (by kernel_rfl)))) ?_
  intro W base args ds gs before hval hW _ _ hreach _ _ _
  exact numsInt_contract Try.params7 (by kernel_rfl) rfl (fun _ _ => rfl) certTurned_walk W base args ds gs before hval hW hreach

theorem certTurned_said : Rows.CertTurnedSaid :=
  OpenClaim.holds_of_cond 7 Try.f7 rfl rfl rfl rfl rfl rfl rfl ⟨rfl, rfl, rfl, rfl, rfl⟩ rfl rfl rfl rfl rfl (by kernel_rfl) Try.func7 (by kernel_rfl)
    (of_decide_eq_true (by kernel_rfl)) (by unfold Func.isWrapper; first | (rw [if_pos (by decide +kernel)]; kernel_rfl) | (rw [if_neg (by decide +kernel)]; exact ⟨rfl, rfl⟩))
    (fun os started H enc _ F => by rw [OpenClaim.pre_eq_preRow]; exact certTurned_lifted os started H enc F)

end Go.Proofs.Ytooogmppfjgdpaa
