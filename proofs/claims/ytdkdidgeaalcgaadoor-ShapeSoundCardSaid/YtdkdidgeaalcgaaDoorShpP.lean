/- The plain account of layer 11: what the types of a tree are, or the first fault. Nothing of the program is walked here. -/
import Derived.Test.YtdkdidgeaalcgaaDoorP02
namespace Go.Proofs.YtdkdidgeaalcgaaDoor
open Go.RowKit

theorem wrap64_in {n : Int} (h0 : -9223372036854775808 ≤ n) (h1 : n ≤ 9223372036854775807) : wrap64 n = n := by unfold wrap64; omega

/- A difference of two variables. -/
structure Fa where
  x : Int
  y : Int
  c : Int
/- A type: its name, its sort, of what; the names and sizes of its fields; its facts. -/
structure Ty where
  name : ByteArray
  sort : Int
  of : Int
  fields : List (ByteArray × Int)
  facts : List Fa

/- The number of the first one of that name. -/
def fndF {α : Type} (nm : α → ByteArray) : List α → ByteArray → Option Nat
  | [], _ => none
  | t :: ts, s => bif (nm t).toList == s.toList then some 0 else (fndF nm ts s).map (· + 1)
def oi : Option Nat → Int
  | none => -1
  | some k => (k : Int)
abbrev fndT := fndF T.text
abbrev fndY := fndF Ty.name
theorem fndF_lt {α : Type} {nm : α → ByteArray} : ∀ {l : List α} {s : ByteArray} {k : Nat}, fndF nm l s = some k → k < l.length
  | [], _, _, h => by cases h
  | t :: ts, s, k, h => by
    unfold fndF at h
    cases hb : (nm t).toList == s.toList with
    | true => rw [hb] at h; simp at h; subst h; simp
    | false =>
      rw [hb] at h
      simp only [cond_false, Option.map_eq_some_iff] at h
      obtain ⟨j, hj, rfl⟩ := h
      have := fndF_lt hj
      simpa using this
/- What IndexFunc has gone through. -/
theorem fndF_take {α : Type} {nm : α → ByteArray} {s : ByteArray} : ∀ {l : List α} {k : Nat} {t : α}, l[k]? = some t → fndF nm (l.take k) s = none → fndF nm (l.take (k + 1)) s = (bif (nm t).toList == s.toList then some k else none) ∧ ((nm t).toList = s.toList → fndF nm l s = some k)
  | [], k, t, h, _ => by simp at h
  | a :: l, 0, t, h, _ => by
    obtain rfl : a = t := by simpa using h
    refine ⟨?_, fun he => ?_⟩
    · simp only [List.take_succ_cons, List.take_zero, fndF]
      cases (nm a).toList == s.toList <;> rfl
    · unfold fndF; rw [he]; simp
  | a :: l, k + 1, t, h, hn => by
    rw [List.take_succ_cons, fndF] at hn
    cases hb : (nm a).toList == s.toList with
    | true => rw [hb] at hn; cases hn
    | false =>
      rw [hb] at hn
      simp only [cond_false, Option.map_eq_none_iff] at hn
      obtain ⟨h1, h2⟩ := fndF_take (nm := nm) (s := s) (l := l) (k := k) (t := t) (by simpa using h) hn
      refine ⟨?_, fun he => ?_⟩
      · rw [List.take_succ_cons, fndF, hb, h1]
        cases (nm t).toList == s.toList <;> rfl
      · rw [fndF, hb, h2 he]; rfl
theorem fndF_snoc {α : Type} {nm : α → ByteArray} : ∀ (l : List α) (t : α) (s : ByteArray), fndF nm (l ++ [t]) s = match fndF nm l s with | some k => some k | none => bif (nm t).toList == s.toList then some l.length else none
  | [], t, s => by simp only [List.nil_append, fndF, List.length_nil]; cases (nm t).toList == s.toList <;> rfl
  | a :: l, t, s => by
    simp only [List.cons_append, fndF, fndF_snoc l t s]
    cases (nm a).toList == s.toList
    · cases h : fndF nm l s
      · simp only [cond_false, Option.map_none, List.length_cons]
        cases (nm t).toList == s.toList <;> rfl
      · rfl
    · rfl

theorem fndY_snoc (l : List Ty) (t : Ty) (s : ByteArray) : fndY (l ++ [t]) s = match fndY l s with | some k => some k | none => bif t.name.toList == s.toList then some l.length else none := fndF_snoc l t s

def factsL (cmp : ByteArray) (a b k l : Int) : List Fa :=
  bif cmp.toList == [60] then [⟨a, b, wrap64 (wrap64 (l - k) - 1)⟩]
  else bif cmp.toList == [60, 61] then [⟨a, b, wrap64 (l - k)⟩]
  else bif cmp.toList == [61, 61] then [⟨a, b, wrap64 (l - k)⟩, ⟨b, a, wrap64 (k - l)⟩]
  else []

def sortN (s : ByteArray) : Int :=
  bif s.toList == [99, 101, 108, 108] then 1
  else bif s.toList == [99, 111, 117, 110, 116, 101, 100] then 2
  else bif s.toList == [108, 111, 99, 107] then 3
  else bif s.toList == [103, 117, 97, 114, 100] then 4
  else 0

def kidN (t : T) (i : Nat) : T := t.kids.getD i zeroT

/- What a Type's node is made of. -/
structure Pt where
  sort : T
  fields : List T
  facts : List T
def ptOf (ks : List T) : Pt := ⟨(ks.filter (fun t => t.kind == 2)).getLastD zeroT, ks.filter (fun t => t.kind == 3), ks.filter (fun t => t.kind == 4)⟩
theorem ptOf_snoc (ks : List T) (t : T) : ptOf (ks ++ [t]) = ⟨bif t.kind == 2 then t else (ptOf ks).sort, bif t.kind == 3 then (ptOf ks).fields ++ [t] else (ptOf ks).fields, bif t.kind == 4 then (ptOf ks).facts ++ [t] else (ptOf ks).facts⟩ := by
  unfold ptOf
  simp only [List.filter_append]
  cases h2 : t.kind == 2 <;> cases h3 : t.kind == 3 <;> cases h4 : t.kind == 4 <;> simp [List.filter, h2, h3, h4]

/- The number of the field of that name, if it is a number. -/
def numF (fs : List T) (s : ByteArray) : Option Nat :=
  match fndT fs s with
  | none => none
  | some i => bif (fs.getD i zeroT).kids.isEmpty then some i else none
theorem numF_lt {fs : List T} {s : ByteArray} {k : Nat} (h : numF fs s = some k) : k < fs.length := by
  unfold numF at h
  cases hf : fndT fs s with
  | none => rw [hf] at h; cases h
  | some i =>
    rw [hf] at h
    simp only at h
    cases hb : (fs.getD i zeroT).kids.isEmpty with
    | false => rw [hb] at h; cases h
    | true => rw [hb] at h; simp at h; subst h; exact fndF_lt hf

abbrev E (α : Type) := Except (Nat × Int) α
def pre {α : Type} (l : List α) : E (List α) → E (List α)
  | .ok r => .ok (l ++ r)
  | .error e => .error e
theorem pre_nil {α : Type} (r : E (List α)) : pre [] r = r := by cases r <;> rfl
theorem pre_pre {α : Type} (l m : List α) (r : E (List α)) : pre l (pre m r) = pre (l ++ m) r := by cases r <;> simp [pre]

def sizeP (fs : List T) (srt : Int) (n : T) : E Int :=
  bif srt != 0 || (numF fs (kidN n 0).text).isNone then .error (n.place, 32) else .ok (oi (numF fs (kidN n 0).text))
def fldP (fs : List T) (srt : Int) (n : T) : E Int := bif n.kids.isEmpty then .ok (-1) else sizeP fs srt n
def fldsF (fs : List T) (srt : Int) : Nat → List T → E (List (ByteArray × Int))
  | _, [] => .ok []
  | i, n :: r =>
    bif (fndT (fs.take i) n.text).isSome then .error (n.place, 30)
    else match fldP fs srt n with
      | .error e => .error e
      | .ok z => pre [(n.text, z)] (fldsF fs srt (i + 1) r)

def keptB (srt of : Int) (i : Int) : Bool := (srt == 2 || srt == 3) && i == of
def varP (fs : List T) (srt of : Int) (t : T) : Option Nat :=
  bif t.text.toList == [] then some 0
  else match numF fs t.text with
    | none => none
    | some i => bif keptB srt of i then none else some (i + 1)
def factF (fs : List T) (srt of : Int) (n : T) : E (List Fa) :=
  match varP fs srt of (kidN n 0), varP fs srt of (kidN n 1) with
  | some a, some b => .ok (factsL n.text a b (kidN n 0).num (kidN n 1).num)
  | _, _ => .error (n.place, 33)
def factsF (fs : List T) (srt of : Int) : List T → E (List Fa)
  | [] => .ok []
  | n :: r =>
    match factF fs srt of n with
    | .error e => .error e
    | .ok l => pre l (factsF fs srt of r)

def ofP (tys : List Ty) (p : Pt) (srt : Int) : E Int :=
  bif srt == 2 || srt == 3 then
    match numF p.fields (kidN p.sort 0).text with
    | none => .error (p.sort.place, 32)
    | some i => .ok i
  else bif srt == 4 then
    match fndY tys (kidN p.sort 0).text with
    | none => .error (p.sort.place, 31)
    | some k =>
      bif (tys[k]?.map (·.sort)).getD 0 != 3 then .error (p.sort.place, 31)
      else bif !p.fields.isEmpty || !p.facts.isEmpty then .error (p.sort.place, 32)
      else .ok k
  else .ok 0

def oneP (tys : List Ty) (n : T) : E Ty :=
  bif (fndY tys n.text).isSome then .error (n.place, 30)
  else bif decide (8 < (ptOf n.kids).fields.length) then .error (n.place, 22)
  else match fldsF (ptOf n.kids).fields (sortN (ptOf n.kids).sort.text) 0 (ptOf n.kids).fields with
    | .error e => .error e
    | .ok fl => match ofP tys (ptOf n.kids) (sortN (ptOf n.kids).sort.text) with
      | .error e => .error e
      | .ok o => match factsF (ptOf n.kids).fields (sortN (ptOf n.kids).sort.text) o (ptOf n.kids).facts with
        | .error e => .error e
        | .ok fc => .ok ⟨n.text, sortN (ptOf n.kids).sort.text, o, fl, fc⟩

def typesF : List Ty → List T → E (List Ty)
  | tys, [] => .ok tys
  | tys, n :: r =>
    bif n.kind == 1 then
      match oneP tys n with
      | .error e => .error e
      | .ok x => typesF (tys ++ [x]) r
    else typesF tys r

end Go.Proofs.YtdkdidgeaalcgaaDoor
