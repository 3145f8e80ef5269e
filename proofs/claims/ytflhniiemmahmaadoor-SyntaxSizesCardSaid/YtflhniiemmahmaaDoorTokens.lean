/- The contract of lex.Tokens in a world that holds the tables of lex: it returns what the plain account says, in new memory, and changes nothing that was there. -/
import Derived.Test.YtflhniiemmahmaaDoorLex
import Derived.Deep.LoopGhost
import Derived.WalkMore
namespace Go.Proofs.YtflhniiemmahmaaDoor
open Go.RowKit

def cellsOf (ts : List Tok) : List Value := ts.flatMap tokCells

def TokPost (r : LexRes) (w : World) (e : Ending) (w' : World) : Prop :=
  match r with
  | .error (p, c) => e = .returned (.tuple #[.slice none 0 0, .int .i64 p, .int .i64 c]) ∧ Below w.heap.size w w'
  | .ok ts => ∃ v, e = .returned (.tuple #[v, .int .i64 0, .int .i64 0]) ∧ w'.ownsRow w.heap.size 50 4 v ts.length (cellsOf ts) ∧ Below w.heap.size w w'

/- What holds at the head of each round of the loop. -/
def TokRel (s : ByteArray) (w : World) (g : Nat) (v a : Value) (wr : World) : Prop :=
  ∃ (k : Nat) (ts : List Tok), k ≤ s.size ∧ s.size ≤ k + g ∧ a = .int .i64 k ∧ wr.ownsRow w.heap.size 50 4 v ts.length (cellsOf ts) ∧ Below w.heap.size w wr ∧ ts.length ≤ k ∧ lexFrom s 0 = more ts (lexFrom s k)

theorem Tryd.infoTok : (Tryd.prog.info? 50).map (fun i => (i.zero, i.size, i.bytes)) = some (some (.agg #[.int .i64 0, .string ⟨#[]⟩, .int .i64 0, .int .i64 0]), 4, 40) := by kernel_rfl

theorem grown_of_below {a w : World} (h : Below a.heap.size a w) (row : Option Nat) : a.grownBy w row := ⟨h.os, h.tape, h.output, h.size, fun i hi _ => h.block i hi⟩

theorem own_below {a w : World} {base : Nat} {e : TypeId} {size n : Nat} {v : Value} {xs : List Value} (h : a.ownsRow base e size v n xs) (hb : Below a.heap.size a w) : w.ownsRow base e size v n xs := by
  refine h.kept (grown_of_below hb none) ?_
  cases v.ownBlock
  · exact .inl rfl
  · exact .inr (by simp)

theorem cellsOf_snoc (ts : List Tok) (t : Tok) : cellsOf (ts ++ [t]) = cellsOf ts ++ tokCells t := by simp [cellsOf]

theorem tokCells_one (t : Tok) : ∀ u ∈ tokCells t, u.oneCell' = true := by
  intro u hu
  simp only [tokCells, List.mem_cons, List.not_mem_nil, or_false] at hu
  rcases hu with rfl | rfl | rfl | rfl <;> rfl

theorem tokCells_at (t : Tok) (w : World) (e : TypeId) (b : Nat) (hb : b = w.heap.size) : ∀ j u, (tokCells t)[j]? = some u →
    (w.alloc (.cells #[.int .i64 t.kind, .string t.text, .int .i64 t.num, .int .i64 t.place] e)).cell? ((⟨b, 0, none⟩ : Addr).add j) = some u := by
  intro j u hj
  subst hb
  rw [Addr.add_mid, Nat.zero_add, cell_of_row _ _ _ _ _ _ (heap_alloc_new w _)]
  simpa [tokCells] using hj

theorem byteAgg (w : World) : (isAgg 5).run Tryd.prog w = .ok false w := by
  unfold isAgg
  rw [Sem.run_bind, run_underlying Tryd.underlying5 w]
  rfl
theorem byteSize : (Tryd.prog.info? 5).map (·.size) = some 1 := by kernel_rfl
theorem blank0 (w : World) : (Instr.index 67 (.agg #[.int .u8 32, .int .u8 10]) (.int .i64 0)).run Tryd.prog w = .ok (.int .u8 32) w :=
  run_index_agg (P := Tryd.prog) (cs := [.int .u8 32, .int .u8 10]) (k := 0) Tryd.underlying67 byteAgg byteSize (by omega) rfl w
theorem blank1 (w : World) : (Instr.index 67 (.agg #[.int .u8 32, .int .u8 10]) (.int .i64 1)).run Tryd.prog w = .ok (.int .u8 10) w :=
  run_index_agg (P := Tryd.prog) (cs := [.int .u8 32, .int .u8 10]) (k := 1) Tryd.underlying67 byteAgg byteSize (by omega) rfl w

theorem byte_eq {b : UInt8} {n : Nat} (h : ((b.toNat : Int) == (n : Int)) = true) : b = n.toUInt8 := by
  have h1 : b.toNat = n := by have := beq_iff_eq.1 h; omega
  rw [← h1]
  simp
theorem byte_ne {b c : UInt8} (h : ((b.toNat : Int) == (c.toNat : Int)) = false) : ¬ b = c := by
  intro e
  subst e
  simp at h
theorem blank_32 {b : UInt8} (h : ((b.toNat : Int) == 32) = true) : isBlank b = true := by
  have := byte_eq (n := 32) h
  subst this
  rfl
theorem blank_10 {b : UInt8} (h : ((b.toNat : Int) == 10) = true) : isBlank b = true := by
  have := byte_eq (n := 10) h
  subst this
  rfl
theorem blank_no {b : UInt8} (h : ((b.toNat : Int) == 32) = false) (h2 : ((b.toNat : Int) == 10) = false) : isBlank b = false := by
  have h1 := byte_ne (c := 32) h
  have h3 := byte_ne (c := 10) h2
  simp [isBlank, h1, h3]

theorem tokAt_err {s : ByteArray} {k : Nat} {e : Int} (h : tokAt s k = .error e) : 11 ≤ e ∧ e ≤ 13 := by
  have hs : ∀ n, signFrom s k n = .error e → e = 11 := by
    intro n
    induction n with
    | zero => unfold signFrom signEnd; split <;> intro h <;> cases h; rfl
    | succ n ih => unfold signFrom; split
                   · intro h; cases h
                   · exact ih
  unfold tokAt at h
  split at h
  · unfold wordTok at h
    split at h
    · cases h; decide
    · split at h <;> cases h
  · split at h
    · unfold numTok at h
      split at h <;> cases h
      decide
    · rw [hs 3 h]; decide

set_option maxHeartbeats 1000000 in
theorem tokens_any (s : ByteArray) (w : World) (hs : s.size ≤ maxLen) (ht : Tabs w) :
    Calls Tryd.prog 18 #[.string s] w fun e w' => TokPost (lexAll s) w e w' := by
  by_cases hbig : 16384 < s.size
  · have hbig' : 16384 < (s.size : Int) := by omega
    have hr : lexAll s = .error (0, 10) := by unfold lexAll; rw [if_pos hbig]
    rw [hr]
    clear hr
    go_enter Tryd.func18, Tryd.ntmps18
    go_wp2
    go_step3
    go_wp2
    (try rw [Exit.noGoto_ret])
    go_ret3
    exact ⟨rfl, Below.refl _ _⟩
  have hr : lexAll s = lexFrom s 0 := by unfold lexAll; rw [if_neg hbig]
  rw [hr]
  clear hr
  have hbig' : ¬ 16384 < (s.size : Int) := by omega
  go_enter Tryd.func18, Tryd.ntmps18
  go_wp2
  go_step3
  go_wp2
  go_step3
  go_wp2
  go_loopg [5, 6] s.size (fun g v a wr => TokRel s w g v a wr)
  case atStart => exact ⟨0, [], by omega, by omega, rfl, World.ownsRow_nil _ _ _ _, Below.refl _ _, by simp, (more_nil _).symm⟩
  case round =>
    obtain ⟨k, ts, hk, hg, rfl, hown, hbel, hlen, hres⟩ := hrel
    have HR := Lib.hid hres
    have htr := ht.below hbel ht.size
    have hb0 := htr.b0
    have hb1 := htr.b1
    have HOWN := Lib.hid hown
    have HBEL := Lib.hid hbel
    have HT := Lib.hid htr
    clear hres hown hbel htr
    by_cases hlt : k < s.size
    · have hi0 := blank0
      have hi1 := blank1
      cases h32 : ((s[k].toNat : Int) == 32)
      · cases h10 : ((s[k].toNat : Int) == 10)
        · cases h35 : ((s[k].toNat : Int) == 35)
          · have hnb : isBlank (bat s k) = false := by rw [bat_eq s k hlt]; exact blank_no h32 h10
            have hnr : ¬ bat s k = 35 := by rw [bat_eq s k hlt]; exact byte_ne h35
            cases hta : tokAt s k with
            | error e0 =>
              have HE := Lib.hid (lex_err hlt hnb hnr hta)
              have hte := tokAt_err hta
              have HA := Lib.hid hta
              clear hta hnb hnr
              have hne : (e0 != 0) = true := by rw [bne_iff_ne]; omega
              go_wp2_with fail
              refine wp_loop_rounds 3 ?_
              rw [rounds_succ]
              go_wp2_with fail
              rw [rounds_succ]
              go_wp2_with fail
              rw [rounds_succ]
              go_wp2_with fail
              refine (tokenAt_any s k _ hs hlt HT.out).mono ?_
              rintro e w1 ⟨rfl, hb⟩
              rw [HA.out]
              unfold resR errR tokV
              have HB := Lib.hid (HBEL.out.trans (hb.mono HBEL.out.size))
              obtain ⟨hc, hf⟩ := bcell hb
              clear hb
              go_wp2
              (try rw [Exit.noGoto_ret])
              go_ret3
              rw [HR.out, HE.out]
              refine ⟨rfl, ?_⟩
              have hz : w.heap.size ≤ w1.heap.size := HB.out.size
              exact HB.out.alloc hz _
            | ok t =>
              have hsz := tokAt_size hlt hta
              have HE := Lib.hid (lex_tok hlt hnb hnr hta)
              have HA := Lib.hid hta
              clear hta hnb hnr
              go_wp2_with fail
              refine wp_loop_rounds 3 ?_
              rw [rounds_succ]
              go_wp2_with fail
              rw [rounds_succ]
              go_wp2_with fail
              rw [rounds_succ]
              go_wp2_with fail
              refine (tokenAt_any s k _ hs hlt HT.out).mono ?_
              rintro e w1 ⟨rfl, hb⟩
              rw [HA.out]
              unfold resR okR tokV
              have HB := Lib.hid (HBEL.out.trans (hb.mono HBEL.out.size))
              have HO := Lib.hid (own_below HOWN.out hb)
              obtain ⟨hc, hf⟩ := bcell hb
              have hz : w.heap.size ≤ w1.heap.size := HB.out.size
              clear hb
              obtain ⟨i0, hi, hz0, hz1, hz2⟩ := info_parts Tryd.infoTok
              go_wp2_with (at_builtin; refine wpList_append_own _ rfl (.tmp 47) (.tmp 49) 45 rfl w.heap.size 50 i0 _ 4 40 Tryd.underlying45 hi hz0 hz1 hz2 rfl (by decide) _ _ _ rfl ((HO.out.alloc _).alloc _) ⟨w1.heap.size + 1, 0, none⟩ 1 1 (tokCells t) rfl rfl ?c1 (tokCells_one t) ?c3 ?c4 ?c5 ?_)
              case c1 => exact tokCells_at t _ _ _ (by simp)
              case c3 => unfold maxLen; omega
              case c4 => omega
              case c5 => simp; omega
              intro v' w2 hown2 hgrow2 _
              have HO2 := Lib.hid hown2
              have HG2 := Lib.hid (((HB.out.alloc hz _).alloc (by simp; omega) _).grown hgrow2 (by simp; omega) (fun j hj => (HO.out.lt j hj).1))
              have htc : w2.cell? ⟨w1.heap.size, 1, none⟩ = some (.string t.text) :=
                hgrow2.cell ((World.cell?_alloc_past _ _ _ (by simp)).trans (cell_of_row _ _ _ _ _ _ (heap_alloc_new w1 _))) (fun h => absurd ((HO.out.lt _ h.symm).2) (Nat.lt_irrefl _))
              clear hown2 hgrow2
              have hsz1 := hsz.1
              have hsz2 := hsz.2
              have hbs : s.size ≤ 16384 := by omega
              clear hsz
              go_wp2
              go_roundg (gk - 1)
              case measure => omega
              case rel => exact ⟨k + t.text.size, ts ++ [t], by omega, by omega, by go_num, by rw [cellsOf_snoc]; simpa using HO2.out, HG2.out, by simp; omega, HR.out.trans (by rw [HE.out, more_more])⟩
          · have hnr : bat s k = 35 := by rw [bat_eq s k hlt]; exact byte_eq h35
            have HE := Lib.hid (lex_remark hlt hnr)
            have hge := remark_gt hlt hnr
            have hle := endOf_le isRI s k (by omega)
            go_wp2_with fail
            refine wp_loop_rounds 3 ?_
            rw [rounds_succ]
            go_wp2_with fail
            rw [rounds_succ]
            go_wp2_with fail
            rw [rounds_succ]
            go_wp2_with fail
            refine (runEnd_remark s k wr hs (by omega) (by omega)).mono ?_
            rintro e w' ⟨rfl, rfl⟩
            go_wp2
            go_roundg (gk - 1)
            case measure => omega
            case rel => exact ⟨endOf isRI s k, ts, by omega, by omega, rfl, HOWN.out, HBEL.out, by omega, HR.out.trans (by rw [HE.out])⟩
        · have HE := Lib.hid (lex_blank hlt (by rw [bat_eq s k hlt]; exact blank_10 h10))
          go_wp2_with fail
          refine wp_loop_rounds 3 ?_
          rw [rounds_succ]
          go_wp2_with fail
          rw [rounds_succ]
          go_wp2_with fail
          go_roundg (gk - 1)
          case measure => omega
          case rel => exact ⟨k + 1, ts, by omega, by omega, by go_num, HOWN.out, HBEL.out, by omega, HR.out.trans (by rw [HE.out])⟩
      · have HE := Lib.hid (lex_blank hlt (by rw [bat_eq s k hlt]; exact blank_32 h32))
        go_wp2_with fail
        refine wp_loop_rounds 3 ?_
        rw [rounds_succ]
        go_wp2_with fail
        go_roundg (gk - 1)
        case measure => omega
        case rel => exact ⟨k + 1, ts, by omega, by omega, by go_num, HOWN.out, HBEL.out, by omega, HR.out.trans (by rw [HE.out])⟩
    · have HE := Lib.hid (lex_end (s := s) (k := k) (by omega))
      have hz : w.heap.size ≤ wr.heap.size := HBEL.out.size
      have hbs : s.size ≤ 16384 := by omega
      obtain ⟨i0, hi, hz0, hz1, hz2⟩ := info_parts Tryd.infoTok
      go_wp2_with (at_builtin; refine wpList_append_own _ rfl (.tmp 56) (.tmp 60) 45 rfl w.heap.size 50 i0 _ 4 40 Tryd.underlying45 hi hz0 hz1 hz2 rfl (by decide) _ _ _ rfl (HOWN.out.alloc _) ⟨wr.heap.size, 0, none⟩ 1 1 (tokCells (endTok s)) rfl rfl ?d1 (tokCells_one (endTok s)) ?d3 ?d4 ?d5 ?_)
      case d1 => exact tokCells_at (endTok s) _ _ _ rfl
      case d3 => unfold maxLen; omega
      case d4 => omega
      case d5 => simp; omega
      intro v' w2 hown2 hgrow2 _
      have HO2 := Lib.hid hown2
      have HG2 := Lib.hid ((HBEL.out.alloc hz _).grown hgrow2 (by simp; omega) (fun j hj => (HOWN.out.lt j hj).1))
      clear hown2 hgrow2
      go_wp2
      (try rw [Exit.noGoto_ret])
      go_ret3
      rw [HR.out, HE.out]
      exact ⟨v', rfl, by rw [cellsOf_snoc]; simpa using HO2.out, HG2.out⟩

end Go.Proofs.YtflhniiemmahmaaDoor
