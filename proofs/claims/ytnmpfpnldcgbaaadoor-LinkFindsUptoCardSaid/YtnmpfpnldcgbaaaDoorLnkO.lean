/- The walk of lychgatelaw08.LinkFinds: an image made by hand, of codes that have a name alone. -/
import Derived.Test.YtnmpfpnldcgbaaaDoorLnkF
import Derived.Test.YtnmpfpnldcgbaaaDoorWakes8
import Derived.OwnWalk
namespace Go.Proofs.YtnmpfpnldcgbaaaDoor
open Go.RowKit Go.Maps

/- append of one code that lies in a new block, in a straight walk. -/
theorem wpList_append_cod {P : Program} {w : World} {ops : Array Oper} {rest : List Oper} {o : Oper} {a : Act} {Q : Exit → Act → World → Prop} (hgd : o.guard = none) (s x : Operand) {t : TypeId} (ho : o.op = .call { callee := .builtin .append, args := #[s, x], argTypes := #[t, t] })
    {i : TypeInfo} {z : Value} (I : RowInfo P t 55 3 64 i z) {cs : List Cod} {c : Cod} {S : Nat → Prop} {v p l : Value} (hs : a.eval s = v) (hk : CodsAt w cs S v) (hS : S w.heap.size) {b cc : Nat} (hx : a.eval x = .slice (some ⟨b, 0, none⟩) 1 cc)
    (hg : Blk w b (codCells c p l) 55) (hc : CodAt w c (fun b => S b ∧ v.ownBlock ≠ some b) p l) (hb : cs.length + 1 ≤ 2000000)
    (h : ∀ v' w', CodsAt w' (cs ++ [c]) S v' → w.grownBy w' v.ownBlock → (v'.ownBlock = v.ownBlock ∨ v'.ownBlock = some w.heap.size) → wpList P ops Q rest (a.put o.dst v') w') : wpList P ops Q (o :: rest) a w :=
  wpList_plain hgd fun _ hK => wp_append_cod s x ho I hs hk hS hx hg hc hb fun v' w' h1 h2 h3 => hK _ _ (h v' w' h1 h2 h3)

/- Strings in a slice that came in. -/
def StrsIn (w : World) (A : Option Addr) (ss : List ByteArray) : Prop :=
  ss.length ≠ 0 → ∃ q o, A = some ⟨q, o, none⟩ ∧ q < w.heap.size ∧ ∀ i s, ss[i]? = some s → w.cell? ⟨q, o + i, none⟩ = some (.string s)
def codOf (s : ByteArray) : Cod := ⟨s, [], []⟩
def imgL (v : Value) (libs : Int) : List Value := [v, .int .i64 libs, .int .i64 0]
def codsK (ss : List ByteArray) (k : Nat) : List Cod := (ss.take k).map codOf
theorem codsK_len {ss : List ByteArray} {k : Nat} (h : k ≤ ss.length) : (codsK ss k).length = k := by unfold codsK; simp; omega
theorem codsK_succ {ss : List ByteArray} {k : Nat} {s : ByteArray} (h : ss[k]? = some s) : codsK ss (k + 1) = codsK ss k ++ [codOf s] := by
  have hlt := (List.getElem?_eq_some_iff.1 h).1
  have he := (List.getElem?_eq_some_iff.1 h).2
  unfold codsK
  rw [List.take_succ_eq_append_getElem hlt, List.map_append, he]
  rfl
def FsRel (w : World) (libs : Int) (ss : List ByteArray) (s : ByteArray) (g : Nat) (want there i : Value) (wr : World) : Prop :=
  ∃ (k : Nat) (v : Value), k ≤ ss.length ∧ ss.length ≤ k + g ∧ want = .int .i64 (((findN (codsK ss k) s).getD 0 : Nat) : Int) ∧ there = .bool (findN (codsK ss k) s).isSome ∧ i = .int .i64 k ∧
    Blk wr w.heap.size (imgL v libs) 60 ∧ CodsAt wr (codsK ss k) (fun b => w.heap.size < b) v ∧ Below w.heap.size w wr

set_option maxRecDepth 100000 in
set_option maxHeartbeats 2000000 in
theorem linkFinds_walk (A : Option Addr) (cap : Nat) (ss : List ByteArray) (libs : Int) (s : ByteArray) (w : World) (hT : StrsIn w A ss) (hl : ss.length ≤ 1048576) (hcap : ss.length ≤ cap) (_ : cap ≤ maxLen) (ht : Tabs w) :
    Calls Tryd.prog 8 #[.slice A ss.length cap, .int .i64 libs, .string s] w fun e w' => e = .returned (.bool true) ∧ Below w.heap.size w w' := by
  have HT := Lib.hid hT
  have HL := Lib.hid hl
  have HTAB := Lib.hid ht
  have HCAP := Lib.hid hcap
  have HST : Hid (FsRel w libs ss s ss.length (.int .i64 0) (.bool false) (.int .i64 0) (w.alloc (.cells (imgL (.slice none 0 0) libs).toArray 60))) := Lib.hid ⟨0, .slice none 0 0, by omega, by omega, rfl, rfl, rfl, Blk.new w _ _, CodsAt.nil _ _, (Below.refl _ _).alloc (Nat.le_refl _) _⟩
  obtain ⟨ic, zc, IC⟩ := Tryd.codeInfo
  clear hT hl ht hcap
  go_enter Tryd.func8, Tryd.ntmps8
  go_wp2_with fail
  go_loopg [8, 9, 19] ss.length (fun gk a b i wr => FsRel w libs ss s gk a b i wr)
  case atStart => exact HST.out
  case round =>
    obtain ⟨k, v, hk, hgk, rfl, rfl, rfl, hbi, hcs, hbel⟩ := hrel
    have HBI := Lib.hid hbi
    have HCS := Lib.hid hcs
    have HB := Lib.hid hbel
    have hlen : (codsK ss k).length = k := codsK_len hk
    obtain ⟨va, vc, hv⟩ := hcs.slice
    rw [hlen] at hv
    subst hv
    have hzw := hbel.size
    clear hbi hcs hbel hlen
    by_cases hlt : k < ss.length
    · have hne := List.getElem?_eq_getElem hlt
      have HTK := Lib.hid (codsK_succ hne)
      generalize ss[k] = sk at hne HTK
      obtain ⟨q, o, rfl, hq, hcell⟩ := HT.out (by omega)
      have tA := (HB.out.cell (p := ⟨q, o + k, none⟩) hq).trans (hcell k sk hne)
      have hcp := HCAP.out
      have hl := HL.out
      have HLN := Lib.hid (show (codsK ss k).length + 1 ≤ 2000000 from by rw [codsK_len hk]; omega)
      have i0 : wr.cell? ⟨w.heap.size, 0, none⟩ = some (.slice va k vc) := HBI.out.cell 0
      have HCS3 := Lib.hid (HCS.out.below ((Below.refl _ _).alloc (Nat.le_refl _) (.cells [.string sk, .slice none 0 0, .slice none 0 0].toArray 55)))
      have HBI3 := Lib.hid (HBI.out.alloc (.cells [.string sk, .slice none 0 0, .slice none 0 0].toArray 55))
      have HB3 := Lib.hid (HB.out.alloc hzw (.cells [.string sk, .slice none 0 0, .slice none 0 0].toArray 55))
      have HN3 := Lib.hid (show Blk (wr.alloc (.cells [.string sk, .slice none 0 0, .slice none 0 0].toArray 55)) wr.heap.size (codCells (codOf sk) (.slice none 0 0) (.slice none 0 0)) 55 from Blk.new wr _ _)
      have HX := Lib.hid (findN_snoc (codsK ss k) (codOf sk) s)
      have HLK := Lib.hid (codsK_len hk)
      have HOWN := Lib.hid (show ∀ b, (Value.slice va k vc).ownBlock = some b → w.heap.size < b from fun b hb => by
        obtain ⟨us, _, hs, _⟩ := HCS.out
        exact hs b hb)
      clear hcell hne
      go_wp2_with (first
        | (at_builtin; refine wpList_append_cod (c := codOf sk) (p := .slice none 0 0) (l := .slice none 0 0) (b := wr.heap.size) rfl (.tmp 25) (.tmp 28) rfl IC rfl HCS3.out (by simp; omega) rfl HN3.out ⟨StrsAt.nil _ _, InsAt.nil _ _⟩ HLN.out ?_))
      intro v' w8 hc8 hg8 hl8
      have hneI : some w.heap.size ≠ (Value.slice va k vc).ownBlock := fun e => by have := HOWN.out _ e.symm; omega
      have hb8 := HBI3.out.grown hg8 hneI
      have hc0 := hb8.cell 0
      have hf0 := hb8.frozen 0
      simp only [imgL, List.getElem?_cons_zero] at hc0
      have hln2 : (codsK ss k ++ [codOf sk]).length = (k + 1) := by rw [← HTK.out]; exact codsK_len (by omega)
      obtain ⟨va2, vc2, hv2⟩ := hc8.slice
      rw [hln2] at hv2
      subst hv2
      have HBI4 := Lib.hid (show Blk (w8.setCell ⟨w.heap.size, 0, none⟩ (.slice va2 (k + 1) vc2)) w.heap.size (imgL (.slice va2 (k + 1) vc2) libs) 60 from hb8.setSame 0 _)
      have HCS4 := Lib.hid (show CodsAt (w8.setCell ⟨w.heap.size, 0, none⟩ (.slice va2 (k + 1) vc2)) (codsK ss (k + 1)) (fun b => w.heap.size < b) (.slice va2 (k + 1) vc2) from by
        rw [HTK.out]
        exact hc8.keep fun b hb _ => ⟨hb, Below.heap_setCell _ _ _ _ (by show b ≠ w.heap.size; omega)⟩)
      have HB4 := Lib.hid (show Below w.heap.size w (w8.setCell ⟨w.heap.size, 0, none⟩ (.slice va2 (k + 1) vc2)) from (HB3.out.grown hg8 (by simp; omega) fun b hb => by have := HOWN.out b hb; omega).setCell (Nat.le_refl _) _)
      clear hc8 hg8 hl8 hb8 hln2 hneI i0
      rw [HLK.out, show (codOf sk).name = sk from rfl] at HX
      have HTK2 := Lib.hid HTK.out
      cases hf : findN (codsK ss k) s with
      | some j =>
        have HX2 := Lib.hid (show findN (codsK ss (k + 1)) s = some j by rw [HTK2.out, HX.out, hf])
        cases hb0 : (sk.toList == s.toList)
        all_goals
          go_wp2_with fail
          go_roundg (gk - 1)
          case measure => omega
          case rel => exact ⟨k + 1, _, by omega, by omega, by rw [HX2.out] <;> rfl, by rw [HX2.out] <;> rfl, by go_num, HBI4.out, HCS4.out, HB4.out⟩
      | none =>
        by_cases he : sk = s
        · subst he
          have HX2 := Lib.hid (show findN (codsK ss (k + 1)) sk = some k by rw [HTK2.out, HX.out, hf]; simp)
          go_wp2_with fail
          go_roundg (gk - 1)
          case measure => omega
          case rel => exact ⟨k + 1, _, by omega, by omega, by rw [HX2.out] <;> rfl, by rw [HX2.out] <;> rfl, by go_num, HBI4.out, HCS4.out, HB4.out⟩
        · have hb : (sk.toList == s.toList) = false := by simpa using fun e => he (toList_eq_iff.1 e)
          have HX2 := Lib.hid (show findN (codsK ss (k + 1)) s = none by rw [HTK2.out, HX.out, hf, hb]; rfl)
          go_wp2_with fail
          go_roundg (gk - 1)
          case measure => omega
          case rel => exact ⟨k + 1, _, by omega, by omega, by rw [HX2.out] <;> rfl, by rw [HX2.out] <;> rfl, by go_num, HBI4.out, HCS4.out, HB4.out⟩
    · have HCS2 := Lib.hid HCS.out
      have HTB := Lib.hid (HTAB.out.below HB.out HTAB.out.size)
      clear HCS
      go_wp2_with ((with_reducible refine at_ld 60 (.tmp 7) ?_); refine wpList_load_blk rfl 60 (.tmp 7) rfl w.heap.size (imgL (.slice va k vc) libs) rfl HBI.out Tryd.underlying60 rfl Tryd.sizeImage ?_)
      refine (find_any HCS2.out libs 0 s).mono ?_
      rintro e w2 ⟨rfl, hb2⟩
      have HB2 := Lib.hid (HB.out.trans (hb2.mono HB.out.size))
      have HT2 := Lib.hid (HTAB.out.below HB2.out HTAB.out.size)
      clear hb2
      generalize findN (codsK ss k) s = r at *
      cases r with
      | none =>
        rw [show libB none libs = false from rfl]
        go_wp2_with fail
        refine (wakes8_any w2 HT2.out).mono ?_
        rintro e w3 ⟨rfl, hb3⟩
        have HB3 := Lib.hid (HB2.out.trans (hb3.mono HB2.out.size))
        clear hb3
        go_wp2_with fail
        go_ret
        exact ⟨rfl, HB3.out⟩
      | some j =>
        rw [show libB (some j) libs = decide ((j : Int) < libs) from rfl]
        go_wp2_with fail
        refine (wakes8_any w2 HT2.out).mono ?_
        rintro e w3 ⟨rfl, hb3⟩
        have HB3 := Lib.hid (HB2.out.trans (hb3.mono HB2.out.size))
        clear hb3
        go_wp2_with fail
        go_ret
        exact ⟨rfl, HB3.out⟩

end Go.Proofs.YtnmpfpnldcgbaaaDoor
