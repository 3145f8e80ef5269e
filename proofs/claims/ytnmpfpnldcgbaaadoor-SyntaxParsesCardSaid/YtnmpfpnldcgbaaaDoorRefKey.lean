/- While lychgateref02.Parse runs: the parser and the unit's node apart; what the loop over the declarations keeps. The tokens that lex makes: one whose text is a key word is one, and one whose text is a sign is one. Nothing of the program is walked here. No conditions. The contract of lychgateref01.sign: the length of the sign at a place, 0 if there is none; the world is left as it was. The contract of lychgateref01.IsKey: it returns what the plain function says and leaves the world as it was. -/
import Derived.Test.YtnmpfpnldcgbaaaDoorRefFn
import Derived.Test.YtnmpfpnldcgbaaaDoorRefMore2
import Derived.Test.YtnmpfpnldcgbaaaDoorRefBlock
import Derived.Test.YtnmpfpnldcgbaaaDoorFirst
import Derived.Test.YtnmpfpnldcgbaaaDoorWord
namespace Go.Proofs.YtnmpfpnldcgbaaaDoor
section
open Go.RowKit

structure PLoc (E : Env) (a W : World) (l : List Tok) (f : Int) (q g : Nat) (ks : List T) (v : Value) : Prop where
  st : RSt E W l 0 f q
  kp : Kp E.pb a W
  blk : Blk W g (nodeCells (T.mk 0 e0 0 0 ks) v) 31
  kids : KAt 31 W ks (fun b => g < b) v
  gt : a.heap.size ≤ g
  plt : E.pb < g
  tlt : E.tb < g
section
variable {E : Env} {a W W' : World} {l l' : List Tok} {f f' : Int} {q q' g : Nat} {ks : List T} {v : Value}
theorem PLoc.lt (h : PLoc E a W l f q g ks v) : g < W.heap.size := h.blk.lt
theorem PLoc.call (h : PLoc E a W l f q g ks v) (hp : Kp E.pb W W') (hs : RSt E W' l' 0 f' q') : PLoc E a W' l' f' q' g ks v := by
  have h2 := h.plt
  exact ⟨hs, h.kp.trans hp, h.blk.kp hp (by omega), h.kids.kp hp (fun b hb => by omega), h.gt, h.plt, h.tlt⟩
theorem PLoc.alloc (h : PLoc E a W l f q g ks v) (o : Obj) : PLoc E a (W.alloc o) l f q g ks v :=
  ⟨h.st.alloc o, h.kp.alloc o, h.blk.alloc o, h.kids.alloc o, h.gt, h.plt, h.tlt⟩
theorem PLoc.draws (h : PLoc E a W l f q g ks v) (n : Nat) : PLoc E a (W.drewN n) l f q g ks v :=
  ⟨h.st.same (Nat.le_refl _) rfl rfl, h.kp.draws n, h.blk, h.kids.keep fun _ hb _ => ⟨hb, rfl⟩, h.gt, h.plt, h.tlt⟩
theorem PLoc.own (h : PLoc E a W l f q g ks v) (k : Nat) (hk : v.ownBlock = some k) : k < W.heap.size ∧ g < k := by
  obtain ⟨_, ho, hS, _⟩ := h.kids
  exact ⟨(ho.lt k hk).2, hS k hk⟩
theorem PLoc.fresh (h : PLoc E a W l f q g ks v) {js : List T} {x : Value} (hk : KAt 31 W' js (fun b => W.heap.size ≤ b) x) : KAt 31 W' js (fun b => g < b ∧ v.ownBlock ≠ some b) x :=
  hk.mono fun b hb _ => by
    have h1 := h.lt
    refine ⟨by omega, fun hv => ?_⟩
    have := (h.own b hv).1
    omega
theorem PLoc.after (h : PLoc E a W l f q g ks v) {js : List T} {v' : Value} (hK : KAt 31 W' js (fun b => g < b) v') (hg : W.grownBy W' v.ownBlock) :
    PLoc E a (W'.setCell ⟨g, 4, none⟩ v') l f q g js v' ∧ W'.cell? ⟨g, 4, none⟩ = some v ∧ W'.frozen? ⟨g, 4, none⟩ = false ∧ g < W'.heap.size := by
  have h1 := h.gt
  have h2 := h.plt
  have h3 := h.tlt
  have hb : Blk W' g (nodeCells (T.mk 0 e0 0 0 ks) v) 31 := h.blk.grown hg (fun e => by have := (h.own g e.symm).2; omega)
  exact ⟨⟨(h.st.grown hg (fun k hk => by have := (h.own k hk).2; omega)).far _ _ (by show _ ≠ g; omega) (by show _ ≠ g; omega), (h.kp.grow hg (fun k hk => by have := (h.own k hk).2; omega)).setNew (p := ⟨g, 4, none⟩) (by show _ ≤ g; omega) _, hb.setSame 4 v', hK.setCell _ _ (fun b hb => by show b ≠ g; omega), h.gt, h.plt, h.tlt⟩, hb.cell 4, hb.frozen 4, hb.lt⟩
end

def RUnitRel (E : Env) (a : World) (g0 : Nat) (g : Nat) (wr : World) : Prop :=
  ∃ ks v lx fx qx, PLoc E a wr lx fx qx g0 ks v ∧ ks.length + g ≤ 16500 ∧
    ((fx == 0) = true → lx.length + 1 ≤ g ∧ ∃ N, lx.length + 1 ≤ N ∧ ∀ ys lf f' q', Sees lx fx qx (unitF N lx) ys lf f' q' → Sees E.ts 0 0 (unitF (E.ts.length + 1) E.ts) (ks ++ ys) lf f' q') ∧
    ((fx == 0) = false → ∀ ys, Sees E.ts 0 0 (unitF (E.ts.length + 1) E.ts) ys lx fx qx)
theorem unitF_stop {n : Nat} {l : List Tok} (hn : 0 < n) (h : ((hdT l).kind == 0) = true) : unitF n l = .ok ([], l) := by
  obtain ⟨m, rfl⟩ : ∃ m, n = m + 1 := ⟨n - 1, by omega⟩
  unfold unitF
  rw [h, cond_true]
theorem unitF_on {n : Nat} {l : List Tok} (h : ((hdT l).kind == 0) = false) : unitF (n + 1) l = bd (declP l) fun a l1 => bd (unitF n l1) fun xs l2 => .ok (a :: xs, l2) := by
  conv => lhs; unfold unitF
  rw [h, cond_false]
theorem unit_next {l2 lx l5 : List Tok} {q qx q5 : Nat} {f5 : Int} {N : Nat} {ks : List T} {t5 : T} {tot : R (List T)} (hi : ((hdT lx).kind == 0) = false) (hN : lx.length + 1 ≤ N) (h5 : Sees lx 0 qx (declP lx) t5 l5 f5 q5)
    (hsee : ∀ ys lf f' q', Sees lx 0 qx (unitF N lx) ys lf f' q' → Sees l2 0 q tot (ks ++ ys) lf f' q') :
    ((f5 == 0) = true → l5.length + 1 ≤ lx.length ∧ ∃ M, l5.length + 1 ≤ M ∧ ∀ ys lf f' q', Sees l5 f5 q5 (unitF M l5) ys lf f' q' → Sees l2 0 q tot ((ks ++ [t5]) ++ ys) lf f' q') ∧ ((f5 == 0) = false → ∀ ys, Sees l2 0 q tot ys l5 f5 q5) := by
  obtain ⟨M, rfl⟩ : ∃ M, N = M + 1 := ⟨N - 1, by omega⟩
  have step : ∀ ys lf f' q', Sees l5 f5 q5 (unitF M l5) ys lf f' q' → Sees lx 0 qx (unitF (M + 1) lx) (t5 :: ys) lf f' q' := fun ys lf f' q' h => by
    rw [unitF_on hi]
    exact h5.andThen (h.map (fun xs => t5 :: xs))
  refine ⟨fun hf => ?_, fun hf ys => ?_⟩
  · have hlt : l5.length + 1 ≤ lx.length := by
      rcases h5 with ⟨_, ⟨_, r1, rfl, rfl, rfl, n1⟩ | ⟨p, c, r1, rfl, rfl, hc⟩⟩ | ⟨e0, _⟩
      · have h1 := decl_sz lx t5 l5 r1
        have h2 := size_pos t5
        unfold Sz at h1
        omega
      · rw [hf] at hc; cases hc
      · cases e0
    refine ⟨hlt, M, by omega, fun ys lf f' q' h => ?_⟩
    have h1 := hsee _ _ _ _ (step ys lf f' q' h)
    rw [List.append_assoc]
    exact h1
  · exact (hsee (t5 :: ys) l5 f5 q5 (step ys l5 f5 q5 (.inr ⟨hf, rfl, rfl, rfl⟩))).other hf
theorem keyFn : keySign (bs [102, 110]) = true := by kernel_rfl
theorem keyType : keySign (bs [116, 121, 112, 101]) = true := by kernel_rfl
theorem decl_fn {l : List Tok} (h : isT (hdT l) (bs [102, 110]) = true) : declP l = fnP (hdT l).place l.tail := by
  have h1 : isT (hdT l) (bs [116, 121, 112, 101]) = false := isT_not h (by kernel_rfl)
  unfold declP expectP
  simp [h, h1, bd]
theorem decl_type {l : List Tok} (h : isT (hdT l) (bs [116, 121, 112, 101]) = true) : declP l = typeP (hdT l).place l.tail := by
  unfold declP expectP
  simp [h, bd]
theorem decl_no {l : List Tok} (h : isT (hdT l) (bs [102, 110]) = false) (h1 : isT (hdT l) (bs [116, 121, 112, 101]) = false) : declP l = .error ((hdT l).place, 20) := by
  unfold declP expectP
  simp [h, h1, bd]
end

section
open Go.RowKit

def hd0 (x : List UInt8) : Int := ((x.getD 0 0).toNat : Int)
theorem key_first {x : List UInt8} (h : keyList.contains x = true) : isLI (hd0 x) = true := by
  have hm : x ∈ keyList := by simpa using h
  have all : ∀ y ∈ keyList, isLI (hd0 y) = true := by decide +kernel
  exact all x hm
theorem index_in : ∀ (l : List UInt8) (c : UInt8), ¬ Lib.indexByte l c < 0 → c ∈ l
  | [], c, h => by unfold Lib.indexByte at h; omega
  | b :: l, c, h => by
    unfold Lib.indexByte at h
    by_cases hb : (b == c) = true
    · rw [beq_iff_eq.1 hb]
      exact List.mem_cons_self
    · rw [if_neg hb] at h
      refine List.mem_cons_of_mem _ (index_in l c fun hl => h ?_)
      by_cases h1 : (Lib.indexByte l c == -1) = true
      · rw [if_pos h1]; decide
      · rw [if_neg h1]
        have := Lib.indexByte_ge l c
        have h2 : ¬ Lib.indexByte l c = -1 := fun e => h1 (by rw [e]; rfl)
        omega
theorem single_first : ∀ b : UInt8, isSingle b = true → isLI (b.toNat : Int) = false ∧ isDI (b.toNat : Int) = false := by
  intro b h
  have hm : b ∈ singles := by
    unfold isSingle at h
    exact index_in _ _ (by simpa using h)
  have all : ∀ y ∈ singles, isLI (y.toNat : Int) = false ∧ isDI (y.toNat : Int) = false := by decide +kernel
  exact all b hm
theorem pair_first {x : List UInt8} (h : isPair x = true) : isLI (hd0 x) = false ∧ isDI (hd0 x) = false := by
  unfold isPair at h
  simp only [Bool.or_eq_true, beq_iff_eq] at h
  rcases h with (rfl | rfl) | rfl <;> exact ⟨by decide, by decide⟩
/- A text that is a key word or a sign begins with no digit; and with no letter, but for a key word. -/
theorem sign_first {s : ByteArray} (h : keySign s = true) : isDI (hd0 s.data.toList) = false ∧ (keyList.contains s.data.toList = true ∨ isLI (hd0 s.data.toList) = false) ∧ 0 < s.size := by
  unfold keySign at h
  simp only [Bool.or_eq_true, Bool.and_eq_true] at h
  rcases h with (h | h) | ⟨h1, h2⟩
  · refine ⟨?_, .inl h, ?_⟩
    · have := key_first h
      unfold isLI isDI at *
      simp only [Bool.or_eq_true, Bool.and_eq_true, decide_eq_true_eq, beq_iff_eq] at this
      simp only [Bool.and_eq_false_iff, decide_eq_false_iff_not]
      omega
    · have hm : s.data.toList ∈ keyList := by simpa using h
      have all : ∀ y ∈ keyList, 0 < y.length := by decide +kernel
      have := all _ hm
      simpa using this
  · refine ⟨(pair_first h).2, .inr (pair_first h).1, ?_⟩
    have : s.data.toList ≠ [] := by
      intro e
      rw [e] at h
      cases h
    have := List.length_pos_iff.2 this
    simpa using this
  · exact ⟨(single_first _ h2).2, .inr (single_first _ h2).1, by have := beq_iff_eq.1 h1; omega⟩

theorem ext_list (s : ByteArray) (k e : Nat) : (s.extract k e).data.toList = (s.data.toList.drop k).take (e - k) := by
  rw [ByteArray.data_extract, Array.toList_extract]
theorem ext_first {s : ByteArray} {k e : Nat} (he : k < e) : hd0 (s.extract k e).data.toList = ((bat s k).toNat : Int) := by
  unfold hd0 bat
  rw [ext_list, List.getD_eq_getElem?_getD, List.getD_eq_getElem?_getD, List.getElem?_take_of_lt (by omega), List.getElem?_drop]
  rfl

/- What a token's kind says of its text. -/
def Kinded (t : Tok) : Prop := (keyList.contains t.text.data.toList = true → t.kind = 2) ∧ KeyOK t
theorem Kinded.of {t : Tok} (h : t.kind = 2 ∨ (t.kind = 4 ∧ isLI (hd0 t.text.data.toList) = false) ∨ isDI (hd0 t.text.data.toList) = true ∨ t.text.size = 0 ∨ (isLI (hd0 t.text.data.toList) = true ∧ keyList.contains t.text.data.toList = false)) : Kinded t := by
  rcases h with h | ⟨h, hl⟩ | h | h | ⟨h, hk⟩
  · exact ⟨fun _ => h, fun _ => .inl h⟩
  · exact ⟨fun hk => (by rw [key_first hk] at hl; cases hl), fun _ => .inr h⟩
  · refine ⟨fun hk => ?_, fun hs => ?_⟩
    · have := (sign_first (s := t.text) (by unfold keySign; rw [hk]; rfl)).1
      rw [h] at this
      cases this
    · have := (sign_first hs).1
      rw [h] at this
      cases this
  · refine ⟨fun hk => ?_, fun hs => ?_⟩
    · have := (sign_first (s := t.text) (by unfold keySign; rw [hk]; rfl)).2.2
      omega
    · have := (sign_first hs).2.2
      omega
  · refine ⟨fun hk2 => (by rw [hk] at hk2; cases hk2), fun hs => ?_⟩
    rcases (sign_first hs).2.1 with h1 | h1
    · rw [hk] at h1; cases h1
    · rw [h] at h1; cases h1
theorem pairAt_kinded (n k : Nat) : Kinded ⟨4, pairAt (2 - n), 0, k⟩ := by
  refine Kinded.of (.inr (.inl ⟨rfl, ?_⟩))
  show isLI (hd0 (pairAt (2 - n)).data.toList) = false
  match n with
  | 0 => decide
  | 1 => decide
  | n + 2 => rw [show 2 - (n + 2) = 0 by omega]; decide
theorem tok_kinded {s : ByteArray} {k : Nat} {t : Tok} (hk : k < s.size) (h : tokAt s k = .ok t) : Kinded t := by
  have hs : ∀ n, signFrom s k n = .ok t → Kinded t := by
    intro n
    induction n with
    | zero =>
      unfold signFrom signEnd
      split
      · rename_i h1
        intro h
        cases h
        refine Kinded.of (.inr (.inl ⟨rfl, ?_⟩))
        show isLI (hd0 (s.extract k (k + 1)).data.toList) = false
        rw [ext_first (by omega)]
        exact (single_first _ h1).1
      · intro h; cases h
    | succ n ih =>
      unfold signFrom
      split
      · intro h
        cases h
        exact pairAt_kinded n k
      · exact ih
  unfold tokAt at h
  split at h
  · rename_i hl
    have hz := word_size hk hl h
    unfold wordTok at h
    split at h
    · cases h
    · split at h
      · cases h
        exact Kinded.of (.inl rfl)
      · rename_i hkey
        cases h
        have h1 := hz.1
        have hle : endOf isWI s k ≤ s.size := endOf_le isWI s k (by omega)
        rw [show (⟨1, s.extract k (endOf isWI s k), 0, k⟩ : Tok).text = s.extract k (endOf isWI s k) from rfl, extract_size' s k (endOf isWI s k) hle] at h1
        refine Kinded.of (.inr (.inr (.inr (.inr ⟨?_, ?_⟩))))
        · show isLI (hd0 (s.extract k (endOf isWI s k)).data.toList) = true
          rw [ext_first (by omega)]
          exact hl
        · have h2 : isKeyB (s.extract k (endOf isWI s k)) = false := by simpa using hkey
          unfold isKeyB keyFrom at h2
          simpa using h2
  · split at h
    · rename_i hd
      have hend : k + 1 ≤ endOf isDI s k := by
        rw [endOf_step hk (by rw [← bat_eq s k hk]; exact hd)]
        exact endOf_ge _ _ _
      unfold numTok at h
      split at h
      · cases h
      · cases h
        refine Kinded.of (.inr (.inr (.inl ?_)))
        show isDI (hd0 (s.extract k (endOf isDI s k)).data.toList) = true
        rw [ext_first (by omega)]
        exact hd
    · exact hs 3 h
theorem lexFrom_kinded {s : ByteArray} : ∀ k, ∀ ts, lexFrom s k = .ok ts → ∀ t ∈ ts, Kinded t := by
  apply lex_ind (P := fun k r => ∀ ts, r = .ok ts → ∀ t ∈ ts, Kinded t)
  · intro k _ ts h t ht
    cases h
    obtain rfl : t = endTok s := by simpa using ht
    exact Kinded.of (.inr (.inr (.inr (.inl rfl))))
  · intro k _ _ ih; exact ih
  · intro k _ _ ih; exact ih
  · intro k e _ _ _ _ ts h; cases h
  · intro k t hk _ _ ht ih ts h
    cases hr : lexFrom s (k + t.text.size) with
    | error e => rw [hr] at h; cases h
    | ok ts' =>
      rw [hr] at h
      cases h
      intro u hu
      rcases List.mem_cons.1 hu with rfl | hu
      · exact tok_kinded hk ht
      · exact ih ts' hr u hu
theorem lexAll_kinded {s : ByteArray} {ts : List Tok} (h : lexAll s = .ok ts) : ∀ t ∈ ts, Kinded t := by
  unfold lexAll at h
  split at h
  · cases h
  · exact lexFrom_kinded 0 ts h
end

section
open Go.RowKit

theorem indexByte_neg (c : UInt8) : ∀ l : List UInt8, Lib.indexByte l c < 0 ↔ c ∉ l
  | [] => by simp [Lib.indexByte]
  | b :: l => by
    have ih := indexByte_neg c l
    have hge := Lib.indexByte_ge l c
    simp only [Lib.indexByte]
    by_cases hb : b = c
    · subst hb
      simp
    · have hb' : (b == c) = false := by simpa using hb
      rw [hb']
      simp only [Bool.false_eq_true, if_false]
      cases hx : (Lib.indexByte l c == -1)
      · have hne : Lib.indexByte l c ≠ -1 := by simpa using hx
        simp only [Bool.false_eq_true, if_false]
        constructor
        · intro h; omega
        · intro h
          have : c ∉ l := fun hm => h (List.mem_cons_of_mem _ hm)
          have := ih.2 this
          omega
      · have he : Lib.indexByte l c = -1 := by simpa using hx
        simp only [if_true]
        have : c ∉ l := ih.1 (by omega)
        constructor
        · intro _ hm
          rcases List.mem_cons.1 hm with h | h
          · exact hb h.symm
          · exact this h
        · intro _; omega

theorem single_in (b : UInt8) : isSingle b = singles.contains b := by
  unfold isSingle
  have h := indexByte_neg b singles
  rw [Bool.eq_iff_iff]
  simp only [Bool.not_eq_true', decide_eq_false_iff_not, List.contains_iff_mem]
  rw [h]
  simp

theorem byte_int (b : UInt8) (n : Nat) (hn : n < 256) : ((b.toNat : Int) == (n : Int)) = (b == n.toUInt8) := by
  rw [Bool.eq_iff_iff, beq_iff_eq, beq_iff_eq, ← UInt8.toNat_inj]
  have : n.toUInt8.toNat = n := by simp; omega
  omega

theorem single_ints (b : UInt8) : isSingle b = ((b.toNat : Int) == 123 || ((b.toNat : Int) == 125 || ((b.toNat : Int) == 40 || ((b.toNat : Int) == 41 || ((b.toNat : Int) == 91 || ((b.toNat : Int) == 93 || ((b.toNat : Int) == 44 || ((b.toNat : Int) == 58 || ((b.toNat : Int) == 59 || ((b.toNat : Int) == 61 || ((b.toNat : Int) == 43 || ((b.toNat : Int) == 45 || ((b.toNat : Int) == 38 || (b.toNat : Int) == 60))))))))))))) := by
  rw [single_in, show ((b.toNat : Int) == 123) = (b == 123) from byte_int b 123 (by omega), show ((b.toNat : Int) == 125) = (b == 125) from byte_int b 125 (by omega), show ((b.toNat : Int) == 40) = (b == 40) from byte_int b 40 (by omega), show ((b.toNat : Int) == 41) = (b == 41) from byte_int b 41 (by omega),
    show ((b.toNat : Int) == 91) = (b == 91) from byte_int b 91 (by omega), show ((b.toNat : Int) == 93) = (b == 93) from byte_int b 93 (by omega), show ((b.toNat : Int) == 44) = (b == 44) from byte_int b 44 (by omega), show ((b.toNat : Int) == 58) = (b == 58) from byte_int b 58 (by omega),
    show ((b.toNat : Int) == 59) = (b == 59) from byte_int b 59 (by omega), show ((b.toNat : Int) == 61) = (b == 61) from byte_int b 61 (by omega), show ((b.toNat : Int) == 43) = (b == 43) from byte_int b 43 (by omega), show ((b.toNat : Int) == 45) = (b == 45) from byte_int b 45 (by omega),
    show ((b.toNat : Int) == 38) = (b == 38) from byte_int b 38 (by omega), show ((b.toNat : Int) == 60) = (b == 60) from byte_int b 60 (by omega)]
  simp only [singles, List.contains_cons, List.contains_nil, Bool.or_false]

def signN (s : ByteArray) (k : Nat) : Nat :=
  if isPair ((s.data.toList.drop k).take 2) = true then 2 else if isSingle (bat s k) = true then 1 else 0

theorem pair_cases (l : List UInt8) : isPair l = (l == [45, 62] || (l == [60, 61] || l == [61, 61])) := by unfold isPair; rw [Bool.or_assoc]

set_option maxHeartbeats 1000000 in
theorem refSign_any (s : ByteArray) (k : Nat) (w : World) (hs : s.size ≤ maxLen) (hk : k < s.size) :
    Calls Tryd.prog 75 #[.string s, .int .i64 k] w fun e w' => e = .returned (.int .i64 (signN s k)) ∧ w = w' := by
  have hs' := hs
  unfold maxLen at hs'
  have HS := Lib.hid (single_ints s[k])
  have HD : Hid (signN s k = if isPair ((s.data.toList.drop k).take 2) = true then 2 else if isSingle s[k] = true then 1 else 0) := Lib.hid (by unfold signN; rw [bat_eq s k hk])
  by_cases h2 : k + 1 < s.size
  · have h2' : (k : Int) + 1 < (s.size : Int) := by omega
    have HP : Hid (isPair ((s.data.toList.drop k).take 2) = ((s.extract k (k + 2)).toList == [45, 62] || ((s.extract k (k + 2)).toList == [60, 61] || (s.extract k (k + 2)).toList == [61, 61]))) :=
      Lib.hid (by rw [ByteArray.toList_eq, extract_list, pair_cases])
    go_enter Tryd.func75, Tryd.ntmps75
    go_wp2
    all_goals go_ret
    all_goals refine ⟨ret_int ?_, rfl⟩
    all_goals (rw [HD.out, HP.out, HS.out]; clear HD HP HS; first | (exfalso; simp_all; done) | (simp only [*, Bool.true_or, Bool.or_true, Bool.or_false, if_true, if_false, Bool.false_eq_true]; done) | (simp only [*, Bool.true_or, Bool.or_true, Bool.or_false, if_true, if_false, Bool.false_eq_true]; rfl) | (simp_all; done))
  · have h2' : ¬ (k : Int) + 1 < (s.size : Int) := by omega
    have HP : Hid (isPair ((s.data.toList.drop k).take 2) = false) := Lib.hid (by
      have hl : ((s.data.toList.drop k).take 2).length = 1 := by rw [List.length_take]; simp; omega
      cases hp : isPair ((s.data.toList.drop k).take 2)
      · rfl
      · unfold isPair at hp
        simp only [Bool.or_eq_true, beq_iff_eq] at hp
        rcases hp with (h | h) | h <;> rw [h] at hl <;> simp at hl)
    go_enter Tryd.func75, Tryd.ntmps75
    go_wp2
    all_goals go_ret
    all_goals refine ⟨ret_int ?_, rfl⟩
    all_goals (rw [HD.out, HP.out, HS.out]; clear HD HP HS; first | (exfalso; simp_all; done) | (simp only [*, Bool.true_or, Bool.or_true, Bool.or_false, if_true, if_false, Bool.false_eq_true]; done) | (simp only [*, Bool.true_or, Bool.or_true, Bool.or_false, if_true, if_false, Bool.false_eq_true]; rfl) | (simp_all; done))
end

section
open Go.RowKit

set_option maxRecDepth 100000 in
set_option maxHeartbeats 1000000 in
theorem refIsKey_any (s : ByteArray) (w : World) :
    Calls Tryd.prog 74 #[.string s] w fun e w' => e = .returned (.bool (isKeyB s)) ∧ w = w' := by
  have HK := Lib.hid (isKeyB_eq s)
  go_enter Tryd.func74, Tryd.ntmps74
  go_wp2
  all_goals go_ret
  all_goals refine ⟨ret_bool ?_, rfl⟩
  all_goals (rw [HK.out]; clear HK; first | (exfalso; simp_all; done) | (simp only [*, Bool.false_or, Bool.true_or, Bool.or_true]; done) | (simp only [*, Bool.false_or, Bool.true_or, Bool.or_true]; rfl))
end

end Go.Proofs.YtnmpfpnldcgbaaaDoor
