/- The plain account of lex.Tokens: where each round goes on, and what the whole comes to. Nothing of the program is walked here. The contract of lex.Tokens in a world that holds the tables of lex: it returns what the plain account says, in new memory, and changes nothing that was there. What the rows' list of package-level variables gives the walks: a world that meets it holds the tables of lex (Tabs). And the world of the witness, which meets it. -/
import Derived.Test.YtnmpfpnldcgbaaaDoorP02
import Derived.Deep.LoopGhost
import Derived.WalkMore
import Derived.Test.YtnmpfpnldcgbaaaDoorCards
import Derived.Test.YtnmpfpnldcgbaaaDoorTie
import Derived.ProofKit
import Derived.OpenShut
import Derived.Deep.DeepHandedRow
import Derived.Lib.LaidTab
namespace Go.Proofs.YtnmpfpnldcgbaaaDoor
section
open Go.RowKit

def isBlank (b : UInt8) : Bool := b == 32 || b == 10

def endTok (s : ByteArray) : Tok := ⟨0, ⟨#[]⟩, 0, s.size⟩

abbrev LexRes := Except (Nat × Int) (List Tok)

def more (ts : List Tok) : LexRes → LexRes
  | .ok r => .ok (ts ++ r)
  | .error e => .error e

/- What is read from place k on: the tokens, the End last, or the place and the number of the first fault. -/
def lexFrom (s : ByteArray) (k : Nat) : LexRes :=
  if _h : s.size ≤ k then .ok [endTok s]
  else if isBlank (bat s k) = true then lexFrom s (k + 1)
  else if bat s k = 35 then lexFrom s (max (k + 1) (endOf isRI s k))
  else match tokAt s k with
    | .error e => .error (k, e)
    | .ok t => more [t] (lexFrom s (max (k + 1) (k + t.text.size)))
termination_by s.size - k
decreasing_by all_goals omega

def lexAll (s : ByteArray) : LexRes := if 16384 < s.size then .error (0, 10) else lexFrom s 0

theorem more_more (a b : List Tok) (r : LexRes) : more a (more b r) = more (a ++ b) r := by cases r <;> simp [more]
theorem more_nil (r : LexRes) : more [] r = r := by cases r <;> simp [more]

theorem lex_end {s : ByteArray} {k : Nat} (h : s.size ≤ k) : lexFrom s k = .ok [endTok s] := by
  rw [lexFrom, dif_pos h]

theorem lex_blank {s : ByteArray} {k : Nat} (h : k < s.size) (hb : isBlank (bat s k) = true) : lexFrom s k = lexFrom s (k + 1) := by
  rw [lexFrom, dif_neg (by omega), if_pos hb]

theorem extract_size' (s : ByteArray) (a b : Nat) (h : b ≤ s.size) : (s.extract a b).size = b - a := by
  rw [ByteArray.size_extract, Nat.min_eq_left h]

theorem remark_gt {s : ByteArray} {k : Nat} (h : k < s.size) (hb : bat s k = 35) : k + 1 ≤ endOf isRI s k := by
  have hp : isRI ((s[k]).toNat : Int) = true := by rw [← bat_eq s k h, hb]; rfl
  rw [endOf_step h hp]
  exact endOf_ge _ _ _

theorem lex_remark {s : ByteArray} {k : Nat} (h : k < s.size) (hb : bat s k = 35) : lexFrom s k = lexFrom s (endOf isRI s k) := by
  have hnb : ¬ isBlank (bat s k) = true := by rw [hb]; decide
  rw [lexFrom, dif_neg (by omega), if_neg hnb, if_pos hb, Nat.max_eq_right (remark_gt h hb)]

theorem lex_err {s : ByteArray} {k : Nat} {e : Int} (h : k < s.size) (hb : isBlank (bat s k) = false) (hr : ¬ bat s k = 35) (ht : tokAt s k = .error e) : lexFrom s k = .error (k, e) := by
  rw [lexFrom, dif_neg (by omega), if_neg (by simp [hb]), if_neg hr, ht]

/- A token is one byte long at least, and lies within the text. -/
theorem word_size {s : ByteArray} {k : Nat} {t : Tok} (h : k < s.size) (hl : isLI ((bat s k).toNat : Int) = true) (ht : wordTok s k = .ok t) : 1 ≤ t.text.size ∧ k + t.text.size ≤ s.size := by
  have hp : isWI ((s[k]).toNat : Int) = true := by rw [← bat_eq s k h]; unfold isWI; rw [hl]; rfl
  have h1 : k + 1 ≤ endOf isWI s k := by rw [endOf_step h hp]; exact endOf_ge _ _ _
  have h2 := endOf_le isWI s k (by omega)
  unfold wordTok at ht
  split at ht
  · cases ht
  · split at ht
    all_goals
      injection ht with ht
      subst ht
      simp only [extract_size' s k _ h2]
      omega

theorem num_size {s : ByteArray} {k : Nat} {t : Tok} (h : k < s.size) (hl : isDI ((bat s k).toNat : Int) = true) (ht : numTok s k = .ok t) : 1 ≤ t.text.size ∧ k + t.text.size ≤ s.size := by
  have hp : isDI ((s[k]).toNat : Int) = true := by rw [← bat_eq s k h]; exact hl
  have h1 : k + 1 ≤ endOf isDI s k := by rw [endOf_step h hp]; exact endOf_ge _ _ _
  have h2 := endOf_le isDI s k (by omega)
  unfold numTok at ht
  split at ht
  · cases ht
  · injection ht with ht
    subst ht
    simp only [extract_size' s k _ h2]
    omega

theorem pre_size {s : ByteArray} {k i : Nat} (hi : i < 3) (hk : k < s.size) (h : hasPre (s.extract k s.size) (pairAt i) = true) : k + 2 ≤ s.size := by
  unfold hasPre at h
  rw [Bool.and_eq_true] at h
  have := h.1
  rw [extract_size' s k _ (Nat.le_refl _), pairAt_size i hi] at this
  simp at this
  omega

theorem signFrom_size {s : ByteArray} {k : Nat} (h : k < s.size) : ∀ (n : Nat) (t : Tok), n ≤ 3 → signFrom s k n = .ok t → 1 ≤ t.text.size ∧ k + t.text.size ≤ s.size
  | 0, t, _, ht => by
    unfold signFrom signEnd at ht
    split at ht
    · injection ht with ht
      subst ht
      simp only [extract_size' s k _ (show k + 1 ≤ s.size by omega)]
      omega
    · cases ht
  | n + 1, t, hn, ht => by
    unfold signFrom at ht
    split at ht
    · rename_i hp
      have := pre_size (by omega) h hp
      injection ht with ht
      subst ht
      simp only [pairAt_size (2 - n) (by omega)]
      omega
    · exact signFrom_size h n t (by omega) ht

theorem tokAt_size {s : ByteArray} {k : Nat} {t : Tok} (h : k < s.size) (ht : tokAt s k = .ok t) : 1 ≤ t.text.size ∧ k + t.text.size ≤ s.size := by
  unfold tokAt at ht
  split at ht
  · exact word_size h (by assumption) ht
  · split at ht
    · exact num_size h (by assumption) ht
    · exact signFrom_size h 3 t (Nat.le_refl _) ht

theorem lex_tok {s : ByteArray} {k : Nat} {t : Tok} (h : k < s.size) (hb : isBlank (bat s k) = false) (hr : ¬ bat s k = 35) (ht : tokAt s k = .ok t) : lexFrom s k = more [t] (lexFrom s (k + t.text.size)) := by
  have := (tokAt_size h ht).1
  rw [lexFrom, dif_neg (by omega), if_neg (by simp [hb]), if_neg hr, ht]
  simp only
  rw [Nat.max_eq_right (by omega)]
end

section
open Go.RowKit

def cellsOf (ts : List Tok) : List Value := ts.flatMap tokCells

def TokPost (r : LexRes) (w : World) (e : Ending) (w' : World) : Prop :=
  match r with
  | .error (p, c) => e = .returned (.tuple #[.slice none 0 0, .int .i64 p, .int .i64 c]) ∧ Below w.heap.size w w'
  | .ok ts => ∃ v, e = .returned (.tuple #[v, .int .i64 0, .int .i64 0]) ∧ w'.ownsRow w.heap.size 109 4 v ts.length (cellsOf ts) ∧ Below w.heap.size w w'

/- What holds at the head of each round of the loop. -/
def TokRel (s : ByteArray) (w : World) (g : Nat) (v a : Value) (wr : World) : Prop :=
  ∃ (k : Nat) (ts : List Tok), k ≤ s.size ∧ s.size ≤ k + g ∧ a = .int .i64 k ∧ wr.ownsRow w.heap.size 109 4 v ts.length (cellsOf ts) ∧ Below w.heap.size w wr ∧ ts.length ≤ k ∧ lexFrom s 0 = more ts (lexFrom s k)

theorem Tryd.infoTok : (Tryd.prog.info? 109).map (fun i => (i.zero, i.size, i.bytes)) = some (some (.agg #[.int .i64 0, .string ⟨#[]⟩, .int .i64 0, .int .i64 0]), 4, 40) := by kernel_rfl

theorem grown_of_below {a w : World} (h : Below a.heap.size a w) (row : Option Nat) : a.grownBy w row := ⟨h.os, h.tape, h.output, h.size, fun i hi _ => h.block i hi⟩

theorem own_below {a w : World} {base : Nat} {e : TypeId} {size n : Nat} {v : Value} {xs : List Value} (h : a.ownsRow base e size v n xs) (hb : Below a.heap.size a w) : w.ownsRow base e size v n xs := by
  refine h.kept (grown_of_below hb none) ?_
  cases v.ownBlock
  · exact .inl rfl
  · exact .inr (by simp)

theorem cellsOf_snoc (ts : List Tok) (t : Tok) : cellsOf (ts ++ [t]) = cellsOf ts ++ tokCells t := by simp [cellsOf]

theorem tokCells_one (t : Tok) : ∀ u ∈ tokCells t, u.oneCell' = true := by
  intro u hu
  simp only [tokCells, List.mem_cons, List.not_mem_nil, or_false] at hu
  rcases hu with rfl | rfl | rfl | rfl <;> rfl

theorem tokCells_at (t : Tok) (w : World) (e : TypeId) (b : Nat) (hb : b = w.heap.size) : ∀ j u, (tokCells t)[j]? = some u →
    (w.alloc (.cells #[.int .i64 t.kind, .string t.text, .int .i64 t.num, .int .i64 t.place] e)).cell? ((⟨b, 0, none⟩ : Addr).add j) = some u := by
  intro j u hj
  subst hb
  rw [Addr.add_mid, Nat.zero_add, cell_of_row _ _ _ _ _ _ (heap_alloc_new w _)]
  simpa [tokCells] using hj

theorem byteAgg (w : World) : (isAgg 5).run Tryd.prog w = .ok false w := by
  unfold isAgg
  rw [Sem.run_bind, run_underlying Tryd.underlying5 w]
  rfl
theorem byteSize : (Tryd.prog.info? 5).map (·.size) = some 1 := by kernel_rfl
theorem blank0 (w : World) : (Instr.index 106 (.agg #[.int .u8 32, .int .u8 10]) (.int .i64 0)).run Tryd.prog w = .ok (.int .u8 32) w :=
  run_index_agg (P := Tryd.prog) (cs := [.int .u8 32, .int .u8 10]) (k := 0) Tryd.underlying106 byteAgg byteSize (by omega) rfl w
theorem blank1 (w : World) : (Instr.index 106 (.agg #[.int .u8 32, .int .u8 10]) (.int .i64 1)).run Tryd.prog w = .ok (.int .u8 10) w :=
  run_index_agg (P := Tryd.prog) (cs := [.int .u8 32, .int .u8 10]) (k := 1) Tryd.underlying106 byteAgg byteSize (by omega) rfl w

theorem byte_eq {b : UInt8} {n : Nat} (h : ((b.toNat : Int) == (n : Int)) = true) : b = n.toUInt8 := by
  have h1 : b.toNat = n := by have := beq_iff_eq.1 h; omega
  rw [← h1]
  simp
theorem byte_ne {b c : UInt8} (h : ((b.toNat : Int) == (c.toNat : Int)) = false) : ¬ b = c := by
  intro e
  subst e
  simp at h
theorem blank_32 {b : UInt8} (h : ((b.toNat : Int) == 32) = true) : isBlank b = true := by
  have := byte_eq (n := 32) h
  subst this
  rfl
theorem blank_10 {b : UInt8} (h : ((b.toNat : Int) == 10) = true) : isBlank b = true := by
  have := byte_eq (n := 10) h
  subst this
  rfl
theorem blank_no {b : UInt8} (h : ((b.toNat : Int) == 32) = false) (h2 : ((b.toNat : Int) == 10) = false) : isBlank b = false := by
  have h1 := byte_ne (c := 32) h
  have h3 := byte_ne (c := 10) h2
  simp [isBlank, h1, h3]

theorem tokAt_err {s : ByteArray} {k : Nat} {e : Int} (h : tokAt s k = .error e) : 11 ≤ e ∧ e ≤ 13 := by
  have hs : ∀ n, signFrom s k n = .error e → e = 11 := by
    intro n
    induction n with
    | zero => unfold signFrom signEnd; split <;> intro h <;> cases h; rfl
    | succ n ih => unfold signFrom; split
                   · intro h; cases h
                   · exact ih
  unfold tokAt at h
  split at h
  · unfold wordTok at h
    split at h
    · cases h; decide
    · split at h <;> cases h
  · split at h
    · unfold numTok at h
      split at h <;> cases h
      decide
    · rw [hs 3 h]; decide

set_option maxHeartbeats 1000000 in
theorem tokens_any (s : ByteArray) (w : World) (hs : s.size ≤ maxLen) (ht : Tabs w) :
    Calls Tryd.prog 30 #[.string s] w fun e w' => TokPost (lexAll s) w e w' := by
  by_cases hbig : 16384 < s.size
  · have hbig' : 16384 < (s.size : Int) := by omega
    have hr : lexAll s = .error (0, 10) := by unfold lexAll; rw [if_pos hbig]
    rw [hr]
    clear hr
    go_enter Tryd.func30, Tryd.ntmps30
    go_wp2
    go_step3
    go_wp2
    (try rw [Exit.noGoto_ret])
    go_ret3
    exact ⟨rfl, Below.refl _ _⟩
  have hr : lexAll s = lexFrom s 0 := by unfold lexAll; rw [if_neg hbig]
  rw [hr]
  clear hr
  have hbig' : ¬ 16384 < (s.size : Int) := by omega
  go_enter Tryd.func30, Tryd.ntmps30
  go_wp2
  go_step3
  go_wp2
  go_step3
  go_wp2
  go_loopg [5, 6] s.size (fun g v a wr => TokRel s w g v a wr)
  case atStart => exact ⟨0, [], by omega, by omega, rfl, World.ownsRow_nil _ _ _ _, Below.refl _ _, by simp, (more_nil _).symm⟩
  case round =>
    obtain ⟨k, ts, hk, hg, rfl, hown, hbel, hlen, hres⟩ := hrel
    have HR := Lib.hid hres
    have htr := ht.below hbel ht.size
    have hb0 := htr.b0
    have hb1 := htr.b1
    have HOWN := Lib.hid hown
    have HBEL := Lib.hid hbel
    have HT := Lib.hid htr
    clear hres hown hbel htr
    by_cases hlt : k < s.size
    · have hi0 := blank0
      have hi1 := blank1
      cases h32 : ((s[k].toNat : Int) == 32)
      · cases h10 : ((s[k].toNat : Int) == 10)
        · cases h35 : ((s[k].toNat : Int) == 35)
          · have hnb : isBlank (bat s k) = false := by rw [bat_eq s k hlt]; exact blank_no h32 h10
            have hnr : ¬ bat s k = 35 := by rw [bat_eq s k hlt]; exact byte_ne h35
            cases hta : tokAt s k with
            | error e0 =>
              have HE := Lib.hid (lex_err hlt hnb hnr hta)
              have hte := tokAt_err hta
              have HA := Lib.hid hta
              clear hta hnb hnr
              have hne : (e0 != 0) = true := by rw [bne_iff_ne]; omega
              go_wp2_with fail
              refine wp_loop_rounds 3 ?_
              rw [rounds_succ]
              go_wp2_with fail
              rw [rounds_succ]
              go_wp2_with fail
              rw [rounds_succ]
              go_wp2_with fail
              refine (tokenAt_any s k _ hs hlt HT.out).mono ?_
              rintro e w1 ⟨rfl, hb⟩
              rw [HA.out]
              unfold resR errR tokV
              have HB := Lib.hid (HBEL.out.trans (hb.mono HBEL.out.size))
              obtain ⟨hc, hf⟩ := bcell hb
              clear hb
              go_wp2
              (try rw [Exit.noGoto_ret])
              go_ret3
              rw [HR.out, HE.out]
              refine ⟨rfl, ?_⟩
              have hz : w.heap.size ≤ w1.heap.size := HB.out.size
              exact HB.out.alloc hz _
            | ok t =>
              have hsz := tokAt_size hlt hta
              have HE := Lib.hid (lex_tok hlt hnb hnr hta)
              have HA := Lib.hid hta
              clear hta hnb hnr
              go_wp2_with fail
              refine wp_loop_rounds 3 ?_
              rw [rounds_succ]
              go_wp2_with fail
              rw [rounds_succ]
              go_wp2_with fail
              rw [rounds_succ]
              go_wp2_with fail
              refine (tokenAt_any s k _ hs hlt HT.out).mono ?_
              rintro e w1 ⟨rfl, hb⟩
              rw [HA.out]
              unfold resR okR tokV
              have HB := Lib.hid (HBEL.out.trans (hb.mono HBEL.out.size))
              have HO := Lib.hid (own_below HOWN.out hb)
              obtain ⟨hc, hf⟩ := bcell hb
              have hz : w.heap.size ≤ w1.heap.size := HB.out.size
              clear hb
              obtain ⟨i0, hi, hz0, hz1, hz2⟩ := info_parts Tryd.infoTok
              go_wp2_with (at_builtin; refine wpList_append_own _ rfl (.tmp 47) (.tmp 49) 71 rfl w.heap.size 109 i0 _ 4 40 Tryd.underlying71 hi hz0 hz1 hz2 rfl (by decide) _ _ _ rfl ((HO.out.alloc _).alloc _) ⟨w1.heap.size + 1, 0, none⟩ 1 1 (tokCells t) rfl rfl ?c1 (tokCells_one t) ?c3 ?c4 ?c5 ?_)
              case c1 => exact tokCells_at t _ _ _ (by simp)
              case c3 => unfold maxLen; omega
              case c4 => omega
              case c5 => simp; omega
              intro v' w2 hown2 hgrow2 _
              have HO2 := Lib.hid hown2
              have HG2 := Lib.hid (((HB.out.alloc hz _).alloc (by simp; omega) _).grown hgrow2 (by simp; omega) (fun j hj => (HO.out.lt j hj).1))
              have htc : w2.cell? ⟨w1.heap.size, 1, none⟩ = some (.string t.text) :=
                hgrow2.cell ((World.cell?_alloc_past _ _ _ (by simp)).trans (cell_of_row _ _ _ _ _ _ (heap_alloc_new w1 _))) (fun h => absurd ((HO.out.lt _ h.symm).2) (Nat.lt_irrefl _))
              clear hown2 hgrow2
              have hsz1 := hsz.1
              have hsz2 := hsz.2
              have hbs : s.size ≤ 16384 := by omega
              clear hsz
              go_wp2
              go_roundg (gk - 1)
              case measure => omega
              case rel => exact ⟨k + t.text.size, ts ++ [t], by omega, by omega, by go_num, by rw [cellsOf_snoc]; simpa using HO2.out, HG2.out, by simp; omega, HR.out.trans (by rw [HE.out, more_more])⟩
          · have hnr : bat s k = 35 := by rw [bat_eq s k hlt]; exact byte_eq h35
            have HE := Lib.hid (lex_remark hlt hnr)
            have hge := remark_gt hlt hnr
            have hle := endOf_le isRI s k (by omega)
            go_wp2_with fail
            refine wp_loop_rounds 3 ?_
            rw [rounds_succ]
            go_wp2_with fail
            rw [rounds_succ]
            go_wp2_with fail
            rw [rounds_succ]
            go_wp2_with fail
            refine (runEnd_remark s k wr hs (by omega) (by omega)).mono ?_
            rintro e w' ⟨rfl, rfl⟩
            go_wp2
            go_roundg (gk - 1)
            case measure => omega
            case rel => exact ⟨endOf isRI s k, ts, by omega, by omega, rfl, HOWN.out, HBEL.out, by omega, HR.out.trans (by rw [HE.out])⟩
        · have HE := Lib.hid (lex_blank hlt (by rw [bat_eq s k hlt]; exact blank_10 h10))
          go_wp2_with fail
          refine wp_loop_rounds 3 ?_
          rw [rounds_succ]
          go_wp2_with fail
          rw [rounds_succ]
          go_wp2_with fail
          go_roundg (gk - 1)
          case measure => omega
          case rel => exact ⟨k + 1, ts, by omega, by omega, by go_num, HOWN.out, HBEL.out, by omega, HR.out.trans (by rw [HE.out])⟩
      · have HE := Lib.hid (lex_blank hlt (by rw [bat_eq s k hlt]; exact blank_32 h32))
        go_wp2_with fail
        refine wp_loop_rounds 3 ?_
        rw [rounds_succ]
        go_wp2_with fail
        go_roundg (gk - 1)
        case measure => omega
        case rel => exact ⟨k + 1, ts, by omega, by omega, by go_num, HOWN.out, HBEL.out, by omega, HR.out.trans (by rw [HE.out])⟩
    · have HE := Lib.hid (lex_end (s := s) (k := k) (by omega))
      have hz : w.heap.size ≤ wr.heap.size := HBEL.out.size
      have hbs : s.size ≤ 16384 := by omega
      obtain ⟨i0, hi, hz0, hz1, hz2⟩ := info_parts Tryd.infoTok
      go_wp2_with (at_builtin; refine wpList_append_own _ rfl (.tmp 56) (.tmp 60) 71 rfl w.heap.size 109 i0 _ 4 40 Tryd.underlying71 hi hz0 hz1 hz2 rfl (by decide) _ _ _ rfl (HOWN.out.alloc _) ⟨wr.heap.size, 0, none⟩ 1 1 (tokCells (endTok s)) rfl rfl ?d1 (tokCells_one (endTok s)) ?d3 ?d4 ?d5 ?_)
      case d1 => exact tokCells_at (endTok s) _ _ _ rfl
      case d3 => unfold maxLen; omega
      case d4 => omega
      case d5 => simp; omega
      intro v' w2 hown2 hgrow2 _
      have HO2 := Lib.hid hown2
      have HG2 := Lib.hid ((HBEL.out.alloc hz _).grown hgrow2 (by simp; omega) (fun j hj => (HOWN.out.lt j hj).1))
      clear hown2 hgrow2
      go_wp2
      (try rw [Exit.noGoto_ret])
      go_ret3
      rw [HR.out, HE.out]
      exact ⟨v', rfl, by rw [cellsOf_snoc]; simpa using HO2.out, HG2.out⟩
end

section
open Go.ChangeShapes Go.WideShapes Go.ChangeAt Go.ChangeMaps Go.RowKit

theorem own : ownKnob Tryd.prog.godebug = none := by kernel_rfl
theorem gKeys : Tryd.prog.globalNamed "lychgate/lex.keys" = some 1 := by kernel_rfl
theorem gBlanks : Tryd.prog.globalNamed "lychgate/lex.blanks" = some 0 := by kernel_rfl
theorem gPairs : Tryd.prog.globalNamed "lychgate/lex.pairs" = some 2 := by kernel_rfl
theorem tKeys : (Tryd.prog.globals[1]?).map (·.type) = some 124 := by kernel_rfl
theorem tBlanks : (Tryd.prog.globals[0]?).map (·.type) = some 106 := by kernel_rfl
theorem tPairs : (Tryd.prog.globals[2]?).map (·.type) = some 131 := by kernel_rfl
theorem cString : Tryd.prog.cellsOf 9 = 1 := by kernel_rfl
theorem cByte : Tryd.prog.cellsOf 5 = 1 := by kernel_rfl
theorem cBlanks : Tryd.prog.cellsOf 106 = 2 := by kernel_rfl

theorem bytes_of (s : ByteArray) : s = ⟨s.data.toList.toArray⟩ := by
  obtain ⟨d⟩ := s
  simp

/- An array of texts that reads as a list of texts holds them, cell for cell. -/
theorem cells_of_strs {H : Type} {enc : TypeId × Value → H} {P : Program} {w : World} {base : Nat} {sp : Nat → Bool} {held : Bool} {fuel : Nat} {t e : TypeId} {n : Nat} {cs : List Value} {ls : List (List UInt8)} {p : List MemPlace}
    (ht : P.underlying t = some (.array n e)) (he : P.underlying e = some .string) (hce : P.cellsOf e = 1)
    (h : DataW.trod enc P w base sp held fuel t cs = some (.agg (ls.map fun l => .lit (.string l)), p)) (i : Nat) (hi : i < n) : cs[i]? = some (.string ⟨(ls.getD i []).toArray⟩) := by
  obtain ⟨xs, m, _, hx, _, hxl, hel⟩ := DataW.trod_array ht h
  simp only [Prod.mk.injEq, DataW.agg.injEq] at hx
  have h1 := hel i hi
  rw [hce, Nat.mul_one, List.getElem?_eq_getElem (by omega)] at h1
  obtain ⟨s, hc, hy, _⟩ := DataW.trod_string he h1
  have h2 : cs[i]? = some (.string s) := by
    have := congrArg (·[0]?) hc
    simpa [List.getElem?_take, List.getElem?_drop] using this
  have h3 : (ls.map fun l => (DataW.lit (.string l) : DataW H))[i]? = some (.lit (.string s.data.toList)) := by
    rw [hx.1, List.getElem?_map, List.getElem?_eq_getElem (by omega), hy]
    rfl
  rw [List.getElem?_map, Option.map_eq_some_iff] at h3
  obtain ⟨l, hl, hs⟩ := h3
  simp only [DataW.lit.injEq, Lit.string.injEq] at hs
  rw [h2, List.getD_eq_getElem?_getD, hl, Option.getD_some, hs, ← bytes_of]

theorem cell_lt {w : World} {b o : Nat} {v : Value} (h : w.cell? ⟨b, o, none⟩ = some v) : b < w.heap.size := by
  rcases Nat.lt_or_ge b w.heap.size with hlt | hge
  · exact hlt
  · simp [World.cell?, Array.getElem?_eq_none hge] at h

/- The list that all rows of this seat bear. -/
def laid3 : List (String × DataW Unit) := [("lychgate/lex.keys", Rows.laid_lychgate_lex_keys), ("lychgate/lex.blanks", Rows.laid_lychgate_lex_blanks), ("lychgate/lex.pairs", Rows.laid_lychgate_lex_pairs)]

theorem tabs_of_laid {W : World} (h : laidMetH Tryd.prog laid3 W) : Tabs W := by
  rw [MakeChecks.laidMetH_plain _ _ _ (by kernel_rfl)] at h
  obtain ⟨ps, ⟨g0, t0, cs0, f0, p0, q0, hg0, ht0, hv0, hd0, ⟨g1, t1, cs1, f1, p1, q1, hg1, ht1, hv1, hd1, ⟨g2, t2, cs2, f2, p2, q2, hg2, ht2, hv2, hd2, _, _⟩, _⟩, _⟩, _, _⟩ := h
  obtain rfl := Option.some.inj (gKeys.symm.trans hg0)
  obtain rfl := Option.some.inj (gBlanks.symm.trans hg1)
  obtain rfl := Option.some.inj (gPairs.symm.trans hg2)
  obtain rfl := Option.some.inj (tKeys.symm.trans ht0)
  obtain rfl := Option.some.inj (tBlanks.symm.trans ht1)
  obtain rfl := Option.some.inj (tPairs.symm.trans ht2)
  have hk : ∀ i, i < 20 → W.cell? ⟨1, i, none⟩ = some (.string (keyAt i)) := fun i hi => by
    have h1 := World.var?_cell hg0 hv0 i
    have h2 := cells_of_strs (ls := keyList) Tryd.underlying124 Tryd.underlying9 cString hd0 i hi
    rw [h1, ← Array.getElem?_toList, h2]
    rfl
  have hp : ∀ i, i < 3 → W.cell? ⟨2, i, none⟩ = some (.string (pairAt i)) := fun i hi => by
    have h1 := World.var?_cell hg2 hv2 i
    have h2 := cells_of_strs (ls := [[45, 62], [60, 61], [61, 61]]) Tryd.underlying131 Tryd.underlying9 cString hd2 i hi
    rw [h1, ← Array.getElem?_toList, h2]
    rfl
  have hb := Lib.cells_of_tab (zs := [32, 10]) Tryd.underlying106 Tryd.underlying5 cByte cBlanks hd1
  have hb' : ∀ i : Nat, W.cell? ⟨0, i, none⟩ = ([32, 10].map fun z => Value.int .u8 z)[i]? := fun i => by
    rw [World.var?_cell hg1 hv1 i, ← Array.getElem?_toList, hb]
  exact ⟨hb' 0, hb' 1, hk, hp, cell_lt (hb' 0), cell_lt (hk 0 (by omega)), cell_lt (hp 0 (by omega))⟩

/- A world for the witness: the settled one, the tables holding what their initialisers lay. -/
def laying (cs : Array Value) : Obj → Obj
  | .cells _ t frozen => .cells cs t frozen
  | o => o
noncomputable def laidWorld (os : Os) : World :=
  { World.holding Tryd.prog os ⟨#[], #[], []⟩ with heap := (((World.holding Tryd.prog os ⟨#[], #[], []⟩).heap.modify 0 (laying #[.int .u8 32, .int .u8 10])).modify 1 (laying keyVals.toArray)).modify 2 (laying pairVals.toArray) }

/- What a law's row asks behind the call: the answer true, the text as it was, nothing else changed. -/
theorem post_text {H : Type} {enc : TypeId × Value → H} {fn : Func} {sp : ChangeSpec} {W W' : World} {s : ByteArray} {before : List MemPlace}
    (hp : fn.params.toList = [9]) (hr : fn.resultTypes = #[4]) (hvars : sp.vars = []) (hfn : sp.fn H [.lit (.string s.data.toList)] = { results := [.lit (.bool true)], args := [.lit (.string s.data.toList)] }) (hs : s.size ≤ maxLen)
    (hW : DataW.Whole enc Tryd.prog fn.params.toList sp.vars false W [.string s] [.lit (.string s.data.toList)] [] before) (hb : Below W.heap.size W W') :
    sp.post enc Tryd.prog fn false true false false W #[.string s] (.bool true) W' := by
  refine ⟨_, _, before, [], [], [], hW, ?_, ?_, ?_, hb.frame _, fun h => by cases h⟩
  · rw [List.append_nil, hfn, hr]
    exact trodAll_cons_mk (shut_bool Tryd.underlying4 _) trodAll_mk0
  · rw [List.append_nil, hfn, hp]
    exact trodAll_cons_mk (shut_string Tryd.underlying9 hs) trodAll_mk0
  · rw [List.append_nil, hfn, hvars]
    rfl

/- From the walk of a law of one text to what its row asks of a call. -/
set_option maxRecDepth 100000 in
theorem text_contract {H : Type} {enc : TypeId × Value → H} {f : FuncId} {fn : Func} {sp : ChangeSpec} (hp : fn.params = #[9]) (hr : fn.resultTypes = #[4]) (hvars : sp.vars = [])
    (hfn : ∀ d : DataW H, sp.fn H [d] = { results := [.lit (.bool true)], args := [d] })
    (walk : ∀ (s : ByteArray) (w : World), s.size ≤ maxLen → Tabs w → Calls Tryd.prog f #[.string s] w fun e w' => e = .returned (.bool true) ∧ Below w.heap.size w w')
    (W : World) (base : Nat) (args : Array Value) (ds gs : List (DataW H)) (before : List MemPlace)
    (hval : ∀ (j : Nat) t v, fn.params[j]? = some t → args[j]? = some v → Value.okWide Tryd.prog W .any base t v)
    (hW : DataW.Whole enc Tryd.prog fn.params.toList sp.vars false W args.toList ds gs before) (hL : laidMetH Tryd.prog laid3 W) :
    Calls Tryd.prog f args W fun e W' => ∃ v, e = .returned v ∧ sp.post enc Tryd.prog fn false true false false W args v W' := by
  have hW' := hW
  obtain ⟨p, q, hA0, hV, rfl, hfz, hnd⟩ := hW
  rw [hvars] at hV
  have hA : DataW.TrodAll enc Tryd.prog W 0 (fun _ => true) true fn.params.toList args.toList ds p := hA0
  rw [hp] at hA hval
  obtain ⟨v0, vs0, d0, ds0, p0, q0, hargs, rfl, rfl, h0, r0⟩ := trodAll_cons hA
  obtain ⟨rfl, rfl, rfl⟩ := trodAll_nil r0
  obtain rfl : args = #[v0] := by cases args; simp_all
  obtain ⟨rfl, rfl⟩ := trodVars_none hV
  obtain ⟨s, rfl, rfl, rfl, hs⟩ := open_string Tryd.underlying9 (hval 0 9 v0 (by simp) (by simp)) h0
  clear hA0
  refine (walk s W hs (tabs_of_laid hL)).mono fun e W' ⟨he, hb⟩ => ⟨_, he, ?_⟩
  exact post_text (by rw [hp]) hr hvars (hfn _) hs hW' hb

theorem laid_met_text (os : Os) : laidMet Tryd.prog laid3 ((laidWorld os).forCall (fun _ _ => 0) ⟨#[], #[.string ⟨#[]⟩], []⟩).memory :=
  laidMet_of_run' 8 (by kernel_rfl) (by kernel_rfl)
end

end Go.Proofs.YtnmpfpnldcgbaaaDoor
