/- The contract of lex.numberAt: the token of the number at a place, or ErrNumber; nothing that was in memory is changed. The contract of lex.tokenAt in a world that holds the tables of lex: the token at a place that is no blank, or the fault there; nothing that was in memory is changed. The plain account of lex.Tokens: where each round goes on, and what the whole comes to. Nothing of the program is walked here. The plain account of layer 2: trees, and the reader of tokens, line by line of the grammar in the way that package word reads it. Nothing of the program is walked here. -/
import Derived.Test.YtdhmdfhnkppnmaaDoorY01
namespace Go.Proofs.YtdhmdfhnkppnmaaDoor
set_option maxHeartbeats 1000000
section
open Go.RowKit
def zMc (s:ByteArray) (k:Nat):Nat→Nat
 | 0=>0
 | n+1=>zMc s k n * 10+((bat s (k+n)).toNat-48)
theorem zNk (s:ByteArray) (k n m:Nat):zMc s k n≤zMc s k (n+m):=by
 induction m with
 | zero=>exact Nat.le_refl _
 | succ m ih =>
  rw [← Nat.add_assoc,zMc]
  omega
def zEe (s:ByteArray) (k:Nat):Bool :=
 (bat s k == 48 && decide (k+1<endOf zFe s k)) || (decide (endOf zFe s k<s.size) && zXj ((bat s (endOf zFe s k)).toNat:Int))
def zIc (s:ByteArray) (k:Nat):Except Int Tok :=
 if zEe s k=true∨1099511627776<zMc s k (endOf zFe s k-k) then .error 12
 else .ok ⟨3,s.extract k (endOf zFe s k),zMc s k (endOf zFe s k-k),k⟩
theorem zzl {p:Int→Bool} {s:ByteArray} {k:Nat}:∀ i,k≤i→i<endOf p s k→(h:i<s.size)→p (s[i].toNat:Int)=true:=by
 intro i hki hi h
 obtain ⟨d,rfl⟩:=Nat.exists_eq_add_of_le hki
 induction d generalizing k with
 | zero =>
  rcases Bool.eq_false_or_eq_true (p ((s[k]'h).toNat:Int)) with hp|hp
  ·exact hp
  ·have:=zrf (p:=p) (s:=s) (k:=k) (by omega) hp
   omega
 | succ d ih =>
  cases hp:p ((s[k]'(by omega)).toNat:Int)
  ·have:=zrf (p:=p) (s:=s) (k:=k) (by omega) hp
   omega
  ·have:=zsd (p:=p) (s:=s) (k:=k) (by omega) hp
   have h2:=ih (k:=k+1) (by omega) (by rw [this] at hi;omega) (by omega)
   have e:k+1+d=k+(d+1):=by omega
   simp only [e] at h2
   exact h2
theorem znj {n:Int} (h:zFe n=true):48≤n∧n≤57:=by unfold zFe at h;simpa using h
theorem zei (s:ByteArray) (k:Nat) (w:World) (hs:s.size≤maxLen) (hk:k<s.size) (hb:zEe s k=true) :
  Calls Tryd.prog 29 #[.string s,.int .i64 k] w fun e w'=>e=errR 12∧Below w.heap.size w w':=by
 have hs':=hs
 unfold maxLen at hs'
 have hge:=zle zFe s k
 have hle:=zkd zFe s k (by omega)
 unfold zEe at hb
 rw [zgc s k hk] at hb
 generalize hE:endOf zFe s k=E at *
 have HE:=zh hE
 clear hE
 have hz:((s[k].toNat:Int) == 48)=(s[k] == 48):=by
  rw [Bool.eq_iff_iff]
  simp only [beq_iff_eq,← UInt8.toNat_inj]
  have:(48:UInt8).toNat=48:=rfl
  omega
 have HZ:=zh hz
 clear hz
 by_cases hA:((s[k].toNat:Int) == 48)=true∧k+1<E
 ·obtain ⟨h1,h2⟩:=hA
  have h3:(k:Int)+1<(E:Int):=by omega
  clear hb
  go_enter Tryd.func29,Tryd.ntmps29
  go_wp2_with (go_at_call 15;refine (zjd _ _ _ hs (by omega) (by omega)).mono ?_;rintro e w' ⟨rfl,rfl⟩;rw [Int.toNat_natCast,HE.out])
  exact bodyPost_ret (v:=.tuple #[zsb zBb,.int .i64 12]) (by simp [results,Tryd.results29,go_sem,zsb,zBb]) rfl ⟨rfl,by go_grown⟩
 ·have hB:E<s.size∧zXj ((bat s E).toNat:Int)=true:=by
   rw [← HZ.out] at hb
   cases h1:((s[k].toNat:Int) == 48)
   ·simpa [h1] using hb
   ·have:¬ k+1<E:=fun h=>hA ⟨h1,h⟩
    simpa [h1,this] using hb
  obtain ⟨h1,h2⟩:=hB
  rw [zgc s E h1] at h2
  clear hb
  cases h4:((s[k].toNat:Int) == 48)
  ·clear hA
   go_enter Tryd.func29,Tryd.ntmps29
   go_wp2_with (first
    | (go_at_call 15;refine (zjd _ _ _ hs (by omega) (by omega)).mono ?_;rintro e w' ⟨rfl,rfl⟩;rw [Int.toNat_natCast,HE.out])
    | (go_at_call 26;refine (zfb _ _).mono ?_;rintro e w' ⟨rfl,rfl⟩))
   exact bodyPost_ret (v:=.tuple #[zsb zBb,.int .i64 12]) (by simp [results,Tryd.results29,go_sem,zsb,zBb]) rfl ⟨rfl,by go_grown⟩
  ·have h5:¬ (k:Int)+1<(E:Int):=fun h=>hA ⟨h4,by omega⟩
   clear hA
   go_enter Tryd.func29,Tryd.ntmps29
   go_wp2_with (first
    | (go_at_call 15;refine (zjd _ _ _ hs (by omega) (by omega)).mono ?_;rintro e w' ⟨rfl,rfl⟩;rw [Int.toNat_natCast,HE.out])
    | (go_at_call 26;refine (zfb _ _).mono ?_;rintro e w' ⟨rfl,rfl⟩))
   exact bodyPost_ret (v:=.tuple #[zsb zBb,.int .i64 12]) (by simp [results,Tryd.results29,go_sem,zsb,zBb]) rfl ⟨rfl,by go_grown⟩
def zej (s:ByteArray) (k:Nat) (w:World) (e:Ending) (w':World):Prop:=e=zao (zIc s k)∧Below w.heap.size w w'
theorem zci {s:ByteArray} {k d:Nat} (hd:k+d≤endOf zFe s k) (h:1099511627776<zMc s k d):zIc s k=.error 12:=by
 unfold zIc
 rw [if_pos]
 right
 have:=zNk s k d (endOf zFe s k-k-d)
 rw [show d+(endOf zFe s k-k-d)=endOf zFe s k-k by omega] at this
 omega
theorem zYl {s:ByteArray} {k d E:Nat} (hb:zEe s k=false) (hE:endOf zFe s k=E) (hd:k+d=E) (h:zMc s k d≤1099511627776):zIc s k=.ok ⟨3,s.extract k E,zMc s k d,k⟩:=by
 unfold zIc
 have e:E-k=d:=by omega
 rw [hE,e,if_neg]
 rw [hb]
 simp
 omega
theorem zAh (s:ByteArray) (k:Nat) (w:World) (hs:s.size≤maxLen) (hk:k<s.size) (hb:zEe s k=false) :
  Calls Tryd.prog 29 #[.string s,.int .i64 k] w fun e w'=>zej s k w e w':=by
 have HB:=zh hb
 have hs':=hs
 unfold maxLen at hs'
 have hge:=zle zFe s k
 have hle:=zkd zFe s k (by omega)
 have hmem:=fun i=>zzl (p:=zFe) (s:=s) (k:=k) i
 unfold zEe at hb
 rw [zgc s k hk] at hb
 generalize hE:endOf zFe s k=E at *
 have HE:=zh hE
 have HM:=zh hmem
 clear hE hmem
 have hz:((s[k].toNat:Int) == 48)=(s[k] == 48):=by
  rw [Bool.eq_iff_iff]
  simp only [beq_iff_eq,← UInt8.toNat_inj]
  have:(48:UInt8).toNat=48:=rfl
  omega
 rw [← hz] at hb
 have HZ:=zh hz
 clear hz
 have hA:((s[k].toNat:Int) == 48)=true→¬ k+1<E:=by
  intro h1 h2
  rw [h1] at hb
  simp [h2] at hb
 have hB:∀ h:E<s.size,zXj (s[E].toNat:Int)=false:=by
  intro h
  rw [← zgc s E h]
  cases h3:zXj ((bat s E).toNat:Int)
  ·rfl
  ·rw [h3] at hb;simp [h] at hb
 clear hb
 cases h4:((s[k].toNat:Int) == 48)<;>by_cases h6:E<s.size
 all_goals
  first
  | (have h7:=hB h6)
  | (have h7:¬ (E:Int)<(s.size:Int):=by omega)
  first
  | (have h5:¬ (k:Int)+1<(E:Int):=by have:=hA h4;omega)
  | skip
  clear hA hB
  go_enter Tryd.func29,Tryd.ntmps29
  go_wp2_with (first
   | (go_at_call 15;refine (zjd _ _ _ hs (by omega) (by omega)).mono ?_;rintro e w' ⟨rfl,rfl⟩;rw [Int.toNat_natCast,HE.out])
   | (go_at_call 26;refine (zfb _ _).mono ?_;rintro e w' ⟨rfl,rfl⟩))
  go_loop [7,8] (fun n i=>∃ d:Nat,k+d≤E∧i=.int .i64 (k+d:Nat)∧n=.int .i64 (zMc s k d)∧zMc s k d≤1099511627776) (fun _ i=>E-(intOf i).toNat)
  case atStart=>exact ⟨0,by omega,by simp,rfl,by simp [zMc]⟩
  case round =>
   obtain ⟨d,hd,rfl,rfl,hM⟩:=hrel
   clear h4 h7
   by_cases hlt:k+d<E
   ·have hdl:k+d<s.size:=by omega
    have hdig:=znj (HM.out (k+d) (by omega) hlt hdl)
    have hnx:zMc s k (d+1)=zMc s k d * 10+(s[k+d].toNat-48):=by rw [zMc,zgc s _ hdl]
    have HN:=zh hnx
    clear hnx
    by_cases hgr:1099511627776<zMc s k (d+1)
    ·have HG:=zh (zci (s:=s) (k:=k) (d:=d+1) (by rw [HE.out];omega) hgr)
     have hgr':1099511627776<(zMc s k d:Int) * 10+((s[k+d].toNat:Int)-48):=by rw [HN.out] at hgr;omega
     clear hgr HN
     generalize hN:zMc s k d=N at *
     generalize hc:(s[k+d].toNat)=c at *
     go_wp2
     unfold zej
     rw [HG.out]
     exact bodyPost_ret (v:=.tuple #[zsb zBb,.int .i64 12]) (by simp [results,Tryd.results29,go_sem,zsb,zBb]) rfl ⟨rfl,by go_grown⟩
    ·have hgr':¬ 1099511627776<(zMc s k d:Int) * 10+((s[k+d].toNat:Int)-48):=by rw [HN.out] at hgr;omega
     have HV:=zh (show ((zMc s k (d+1):Nat):Int)=(zMc s k d:Int) * 10+((s[k+d].toNat:Int)-48) by rw [HN.out];omega)
     have HL:=zh (show zMc s k (d+1)≤1099511627776 by omega)
     clear hgr HN
     generalize hN:zMc s k d=N at *
     generalize hc:(s[k+d].toNat)=c at *
     go_wp2
     go_round
     case rel=>exact ⟨d+1,by omega,by go_num,by rw [HV.out],HL.out⟩
     case measure=>simp [intOf];omega
   ·have HO:=zh (zYl HB.out HE.out (show k+d=E by omega) hM)
    generalize hN:zMc s k d=N at *
    go_wp2
    unfold zej
    rw [HO.out]
    exact bodyPost_ret (v:=.tuple #[zsb ⟨3,s.extract k E,N,k⟩,.int .i64 0]) (by simp [results,Tryd.results29,go_sem,zsb]) rfl ⟨rfl,by go_grown⟩
theorem zai (s:ByteArray) (k:Nat) (w:World) (hs:s.size≤maxLen) (hk:k<s.size) :
  Calls Tryd.prog 29 #[.string s,.int .i64 k] w fun e w'=>e=zao (zIc s k)∧Below w.heap.size w w':=by
 cases hb:zEe s k
 ·exact zAh s k w hs hk hb
 ·have hr:zIc s k=.error 12:=by unfold zIc;rw [if_pos (Or.inl hb)]
  rw [hr]
  exact zei s k w hs hk hb
end
section
open Go.RowKit
def zun:Except Int Tok→Tok
 | .ok t=>t
 | .error _=>zBb
def errOf:Except Int Tok→Int
 | .ok _=>0
 | .error e=>e
theorem ztf (x:Except Int Tok):zao x=.returned (.tuple #[zsb (zun x),.int .i64 (errOf x)]):=by cases x<;>rfl
def zLc (s:ByteArray) (k:Nat):Except Int Tok :=
 if zXj ((bat s k).toNat:Int)=true then zMb s k else if zFe ((bat s k).toNat:Int)=true then zIc s k else zVd s k
theorem zHk {W w1:World} (hb:Below W.heap.size W w1):(∀ b o,b<W.heap.size→w1.cell? ⟨b,o,none⟩=W.cell? ⟨b,o,none⟩)∧(∀ b o,b<W.heap.size→w1.frozen? ⟨b,o,none⟩=W.frozen? ⟨b,o,none⟩) :=
 ⟨fun b o h=>hb.cell (p:=⟨b,o,none⟩) h,fun b o h=>hb.frozen (p:=⟨b,o,none⟩) h⟩
theorem zKg (s:ByteArray) (k:Nat) (w:World) (hs:s.size≤maxLen) (hk:k<s.size) (ht:Tabs w) :
  Calls Tryd.prog 17 #[.string s,.int .i64 k] w fun e w'=>e=zao (zLc s k)∧Below w.heap.size w w':=by
 have hs':=hs
 unfold maxLen at hs'
 cases hl:zXj (s[k].toNat:Int)
 ·cases hd:zFe (s[k].toNat:Int)
  ·have hr:zLc s k=zVd s k:=by unfold zLc;rw [zgc s k hk,if_neg (by simp [hl]),if_neg (by simp [hd])]
   rw [hr,ztf]
   clear hr
   generalize hx:zVd s k=x
   have HX:=zh hx
   clear hx
   go_enter Tryd.func17,Tryd.ntmps17
   go_wp2_with (first
    | (go_at_call 26;refine (zfb _ _).mono ?_;rintro e w' ⟨rfl,rfl⟩)
    | (go_at_call 28;refine (zsc _ _).mono ?_;rintro e w' ⟨rfl,rfl⟩))
   refine (zDk s k _ hs hk ht.alloc).mono ?_
   rintro e w1 ⟨rfl,hb⟩
   rw [ztf,HX.out]
   obtain ⟨hc,hf⟩:=zHk hb
   have hz:w.heap.size+1≤w1.heap.size:=by have:=hb.size;simp at this;omega
   have HB:=zh (((Below.refl w.heap.size w).alloc (Nat.le_refl _) _).trans (hb.mono (by simp)))
   clear hb
   unfold zsb
   go_wp2
   exact bodyPost_ret (v:=.tuple #[zsb (zun x),.int .i64 (errOf x)]) (by simp [results,Tryd.results17,go_sem,zsb,hc]) rfl ⟨rfl,by repeat (first|exact HB.out|refine Below.setCell ?_ (by simp) _)⟩
  ·have hr:zLc s k=zIc s k:=by unfold zLc;rw [zgc s k hk,if_neg (by simp [hl]),if_pos (by simp [hd])]
   rw [hr,ztf]
   clear hr
   generalize hx:zIc s k=x
   have HX:=zh hx
   clear hx
   go_enter Tryd.func17,Tryd.ntmps17
   go_wp2_with (first
    | (go_at_call 26;refine (zfb _ _).mono ?_;rintro e w' ⟨rfl,rfl⟩)
    | (go_at_call 28;refine (zsc _ _).mono ?_;rintro e w' ⟨rfl,rfl⟩))
   refine (zai s k _ hs hk).mono ?_
   rintro e w1 ⟨rfl,hb⟩
   rw [ztf,HX.out]
   obtain ⟨hc,hf⟩:=zHk hb
   have hz:w.heap.size+1≤w1.heap.size:=by have:=hb.size;simp at this;omega
   have HB:=zh (((Below.refl w.heap.size w).alloc (Nat.le_refl _) _).trans (hb.mono (by simp)))
   clear hb
   unfold zsb
   go_wp2
   exact bodyPost_ret (v:=.tuple #[zsb (zun x),.int .i64 (errOf x)]) (by simp [results,Tryd.results17,go_sem,zsb,hc]) rfl ⟨rfl,by repeat (first|exact HB.out|refine Below.setCell ?_ (by simp) _)⟩
 ··have hr:zLc s k=zMb s k:=by unfold zLc;rw [zgc s k hk,if_pos (by simp [hl])]
   rw [hr,ztf]
   clear hr
   generalize hx:zMb s k=x
   have HX:=zh hx
   clear hx
   go_enter Tryd.func17,Tryd.ntmps17
   go_wp2_with (first
    | (go_at_call 26;refine (zfb _ _).mono ?_;rintro e w' ⟨rfl,rfl⟩)
    | (go_at_call 28;refine (zsc _ _).mono ?_;rintro e w' ⟨rfl,rfl⟩))
   refine (zyk s k _ hs hk ht.alloc).mono ?_
   rintro e w1 ⟨rfl,hb⟩
   rw [ztf,HX.out]
   obtain ⟨hc,hf⟩:=zHk hb
   have hz:w.heap.size+1≤w1.heap.size:=by have:=hb.size;simp at this;omega
   have HB:=zh (((Below.refl w.heap.size w).alloc (Nat.le_refl _) _).trans (hb.mono (by simp)))
   clear hb
   unfold zsb
   go_wp2
   exact bodyPost_ret (v:=.tuple #[zsb (zun x),.int .i64 (errOf x)]) (by simp [results,Tryd.results17,go_sem,zsb,hc]) rfl ⟨rfl,by repeat (first|exact HB.out|refine Below.setCell ?_ (by simp) _)⟩
end
section
open Go.RowKit
def zLb (b:UInt8):Bool:=b == 32 || b == 10
def zcf (s:ByteArray):Tok:=⟨0,⟨#[]⟩,0,s.size⟩
abbrev zXe:=Except (Nat × Int) (List Tok)
def more (ts:List Tok):zXe→zXe
 | .ok r=>.ok (ts++r)
 | .error e=>.error e
def lexFrom (s:ByteArray) (k:Nat):zXe :=
 if _h:s.size≤k then .ok [zcf s]
 else if zLb (bat s k)=true then lexFrom s (k+1)
 else if bat s k=35 then lexFrom s (max (k+1) (endOf zAk s k))
 else match zLc s k with
  | .error e=>.error (k,e)
  | .ok t=>more [t] (lexFrom s (max (k+1) (k+t.text.size)))
termination_by s.size-k
decreasing_by all_goals omega
def zjc (s:ByteArray):zXe:=if 16384<s.size then .error (0,10) else lexFrom s 0
theorem zfl (a b:List Tok) (r:zXe):more a (more b r)=more (a++b) r:=by cases r<;>simp [more]
theorem zWm (r:zXe):more [] r=r:=by cases r<;>simp [more]
theorem zAm {s:ByteArray} {k:Nat} (h:s.size≤k):lexFrom s k=.ok [zcf s]:=by
 rw [lexFrom,dif_pos h]
theorem zkg {s:ByteArray} {k:Nat} (h:k<s.size) (hb:zLb (bat s k)=true):lexFrom s k=lexFrom s (k+1):=by
 rw [lexFrom,dif_neg (by omega),if_pos hb]
theorem zcc (s:ByteArray) (a b:Nat) (h:b≤s.size):(s.extract a b).size=b-a:=by
 rw [ByteArray.size_extract,Nat.min_eq_left h]
theorem zee {s:ByteArray} {k:Nat} (h:k<s.size) (hb:bat s k=35):k+1≤endOf zAk s k:=by
 have hp:zAk ((s[k]).toNat:Int)=true:=by rw [← zgc s k h,hb];rfl
 rw [zsd h hp]
 exact zle _ _ _
theorem zih {s:ByteArray} {k:Nat} (h:k<s.size) (hb:bat s k=35):lexFrom s k=lexFrom s (endOf zAk s k):=by
 have hnb:¬ zLb (bat s k)=true:=by rw [hb];decide
 rw [lexFrom,dif_neg (by omega),if_neg hnb,if_pos hb,Nat.max_eq_right (zee h hb)]
theorem zgm {s:ByteArray} {k:Nat} {e:Int} (h:k<s.size) (hb:zLb (bat s k)=false) (hr:¬ bat s k=35) (ht:zLc s k=.error e):lexFrom s k=.error (k,e):=by
 rw [lexFrom,dif_neg (by omega),if_neg (by simp [hb]),if_neg hr,ht]
theorem zui {s:ByteArray} {k:Nat} {t:Tok} (h:k<s.size) (hl:zXj ((bat s k).toNat:Int)=true) (ht:zMb s k=.ok t):1≤t.text.size∧k+t.text.size≤s.size:=by
 have hp:zMe ((s[k]).toNat:Int)=true:=by rw [← zgc s k h];unfold zMe;rw [hl];rfl
 have h1:k+1≤endOf zMe s k:=by rw [zsd h hp];exact zle _ _ _
 have h2:=zkd zMe s k (by omega)
 unfold zMb at ht
 split at ht
 ·cases ht
 ·split at ht
  all_goals
   injection ht with ht
   subst ht
   simp only [zcc s k _ h2]
   omega
theorem zFn {s:ByteArray} {k:Nat} {t:Tok} (h:k<s.size) (hl:zFe ((bat s k).toNat:Int)=true) (ht:zIc s k=.ok t):1≤t.text.size∧k+t.text.size≤s.size:=by
 have hp:zFe ((s[k]).toNat:Int)=true:=by rw [← zgc s k h];exact hl
 have h1:k+1≤endOf zFe s k:=by rw [zsd h hp];exact zle _ _ _
 have h2:=zkd zFe s k (by omega)
 unfold zIc at ht
 split at ht
 ·cases ht
 ·injection ht with ht
  subst ht
  simp only [zcc s k _ h2]
  omega
theorem zbn {s:ByteArray} {k i:Nat} (hi:i<3) (hk:k<s.size) (h:zQd (s.extract k s.size) (zKc i)=true):k+2≤s.size:=by
 unfold zQd at h
 rw [Bool.and_eq_true] at h
 have:=h.1
 rw [zcc s k _ (Nat.le_refl _),zCe i hi] at this
 simp at this
 omega
theorem zNe {s:ByteArray} {k:Nat} (h:k<s.size):∀ (n:Nat) (t:Tok),n≤3→zXa s k n=.ok t→1≤t.text.size∧k+t.text.size≤s.size
 | 0,t,_,ht=>by
  unfold zXa zUd at ht
  split at ht
  ·injection ht with ht
   subst ht
   simp only [zcc s k _ (show k+1≤s.size by omega)]
   omega
  ·cases ht
 | n+1,t,hn,ht=>by
  unfold zXa at ht
  split at ht
  ·rename_i hp
   have:=zbn (by omega) h hp
   injection ht with ht
   subst ht
   simp only [zCe (2-n) (by omega)]
   omega
  ·exact zNe h n t (by omega) ht
theorem zvd {s:ByteArray} {k:Nat} {t:Tok} (h:k<s.size) (ht:zLc s k=.ok t):1≤t.text.size∧k+t.text.size≤s.size:=by
 unfold zLc at ht
 split at ht
 ·exact zui h (by assumption) ht
 ·split at ht
  ·exact zFn h (by assumption) ht
  ·exact zNe h 3 t (Nat.le_refl _) ht
theorem zbl {s:ByteArray} {k:Nat} {t:Tok} (h:k<s.size) (hb:zLb (bat s k)=false) (hr:¬ bat s k=35) (ht:zLc s k=.ok t):lexFrom s k=more [t] (lexFrom s (k+t.text.size)):=by
 have:=(zvd h ht).1
 rw [lexFrom,dif_neg (by omega),if_neg (by simp [hb]),if_neg hr,ht]
 simp only
 rw [Nat.max_eq_right (by omega)]
end
section
open Go.RowKit
inductive T where
 | mk (kind:Int) (text:ByteArray) (num:Int) (place:Nat) (kids:List T)
def T.kids:T→List T|.mk _ _ _ _ ks=>ks
def T.text:T→ByteArray|.mk _ s _ _ _=>s
def T.place:T→Nat|.mk _ _ _ p _=>p
def T.kind:T→Int|.mk k _ _ _ _=>k
def T.num:T→Int|.mk _ _ n _ _=>n
abbrev R (α:Type):=Except (Nat × Int) (α × List Tok)
def bd {α β:Type} (r:R α) (f:α→List Tok→R β):R β :=
 match r with
 | .error e=>.error e
 | .ok (a,l)=>f a l
theorem zia {α β:Type} {r:R α} {a:α} {l:List Tok} (h:r=.ok (a,l)) (f:α→List Tok→R β):bd r f=f a l:=by rw [h];rfl
theorem zpa {α β:Type} {r:R α} {e:Nat × Int} (h:r=.error e) (f:α→List Tok→R β):bd r f=.error e:=by rw [h];rfl
def hdT (l:List Tok):Tok:=l.headD zBb
def bs (l:List UInt8):ByteArray:=⟨l.toArray⟩
def isT (t:Tok) (s:ByteArray):Bool:=t.text.toList == s.toList
def zxa (ss:List ByteArray) (l:List Tok):R Tok:=bif ss.any (isT (hdT l)) then .ok (hdT l,l.tail) else .error ((hdT l).place,20)
def zmf (k:Nat) (l:List Tok):R Tok:=bif (hdT l).kind == k then .ok (hdT l,l.tail) else .error ((hdT l).place,20)
def zac (l:List Tok):R ByteArray:=bd (zmf 1 l) fun t l=>.ok (t.text,l)
def zvb (l:List Tok):R Int:=bd (zmf 3 l) fun t l=>.ok ((t.num:Int),l)
def e0:ByteArray:=⟨#[]⟩
def zaf (item:List Tok→R T):Nat→List Tok→R (List T)
 | 0,_=>.error (0,0)
 | n+1,l=>bif isT (hdT l) (bs [44]) then bd (item l.tail) fun a l=>bd (zaf item n l) fun xs l=>.ok (a :: xs,l) else .ok ([],l)
def zAd (item:List Tok→R T) (l:List Tok):R (List T):=bd (item l) fun a l=>bd (zaf item l.length l) fun xs l=>.ok (a :: xs,l)
def zib (item:List Tok→R T) (l:List Tok):R (List T) :=
 bd (zxa [bs [40]] l) fun _ l=>bif isT (hdT l) (bs [41]) then .ok ([],l.tail) else bd (zAd item l) fun xs l=>bd (zxa [bs [41]] l) fun _ l=>.ok (xs,l)
def zCa (l:List Tok):R T:=bd (zac l) fun s l1=>.ok (.mk 5 s 0 (hdT l).place [],l1)
def zJa (l:List Tok):R T :=
 bif isT (hdT l) (bs [45]) then bd (zvb l.tail) fun n l1=>.ok (.mk 5 e0 (-n) (hdT l).place [],l1)
 else bd (zvb l) fun n l1=>.ok (.mk 5 e0 n (hdT l).place [],l1)
def sumP (l:List Tok):Option (Int × Int):=bif isT (hdT l) (bs [43]) then some (21,1) else bif isT (hdT l) (bs [45]) then some (22,-1) else none
def zZn (r:Option (Int × Int)) (a:R T) (f:Int→Int→R T):R T :=
 match r with
 | none=>a
 | some (k,x)=>f k x
theorem zvi {r:Option (Int × Int)} (h:r=none) (a:R T) (f:Int→Int→R T):zZn r a f=a:=by rw [h];rfl
theorem zyd {r:Option (Int × Int)} {k x:Int} (h:r=some (k,x)) (a:R T) (f:Int→Int→R T):zZn r a f=f k x:=by rw [h];rfl
def T.zVb (v:Int):T→T|.mk k s _ p ks=>.mk k s v p ks
def zKb (l:List Tok):R T :=
 bif (hdT l).kind == 1 then bd (zCa l) fun n l1=>zZn (sumP l1) (.ok (n,l1)) fun _ f=>bd (zvb l1.tail) fun v l2=>.ok (n.zVb (f * v),l2)
 else zJa l
def zDc (l:List Tok):R T:=bd (zxa [bs [91]] l) fun _ l=>bd (zKb l) fun a l=>bd (zxa [bs [93]] l) fun _ l=>.ok (a,l)
def zLe (n:T) (l:List Tok):R T:=bd (zib zKb l) fun xs l=>.ok (.mk 28 n.text 0 n.place xs,l)
def zQi (p:Nat) (l:List Tok):R T :=
 bif isT (hdT l) (bs [109,117,116]) then bd (zac l.tail) fun s l=>.ok (.mk 27 s 0 p [],l) else bd (zac l) fun s l=>.ok (.mk 26 s 0 p [],l)
def zEa (l:List Tok):R T :=
 bd (zCa l) fun n l =>
  bif isT (hdT l) (bs [91]) then bd (zDc l) fun a l=>.ok (.mk 25 n.text 0 n.place [a],l)
  else bif isT (hdT l) (bs [40]) then zLe n l
  else zZn (sumP l) (.ok (n,l)) fun k f =>
   bif (hdT l.tail).kind == 1 then bd (zCa l.tail) fun m l=>.ok (.mk k e0 0 n.place [n,m],l)
   else bd (zvb l.tail) fun v l=>.ok (n.zVb (f * v),l)
def znc (l:List Tok):R T :=
 bif isT (hdT l) (bs [110,101,119]) then bd (zvb l.tail) fun v l1=>.ok (.mk 23 e0 v (hdT l).place [],l1)
 else bif isT (hdT l) (bs [97,114,114,97,121]) then bd (zac l.tail) fun s l1=>.ok (.mk 24 s 0 (hdT l).place [],l1)
 else bif isT (hdT l) (bs [38]) then zQi (hdT l).place l.tail
 else bif (hdT l).kind == 1 then zEa l
 else zJa l
def zRa (k:Int) (p:Nat) (l:List Tok):R T :=
 bd (zKb l) fun a l=>bd (zxa [bs [60],bs [60,61],bs [61,61]] l) fun c l=>bd (zKb l) fun b l=>.ok (.mk k c.text 0 p [a,b],l)
def zze (l:List Tok):R T:=zRa 4 (hdT l).place l
def zUb (l:List Tok):R T :=
 bd (zac l) fun s l1=>bif isT (hdT l1) (bs [91]) then bd (zCa l1.tail) fun a l2=>bd (zxa [bs [93]] l2) fun _ l3=>.ok (.mk 3 s 0 (hdT l).place [a],l3) else .ok (.mk 3 s 0 (hdT l).place [],l1)
def zKd (l:List Tok):R T :=
 bd (zxa [bs [111,119,110],bs [99,101,108,108],bs [99,111,117,110,116,101,100],bs [108,111,99,107],bs [103,117,97,114,100]] l) fun t l1 =>
  bif isT t (bs [111,119,110]) || isT t (bs [99,101,108,108]) then .ok (.mk 2 t.text 0 t.place [],l1) else bd (zCa l1) fun a l2=>.ok (.mk 2 t.text 0 t.place [a],l2)
def zKa (l:List Tok):R T :=
 bd (zxa [bs [105,110,116],bs [111,119,110]] l) fun t l1 =>
  bif isT t (bs [111,119,110]) then bd (zCa l1) fun a l2=>.ok (.mk 8 t.text 0 t.place [a],l2) else .ok (.mk 8 t.text 0 t.place [],l1)
def zpd (l:List Tok):R T :=
 bif isT (hdT l) (bs [38]) then
  bif isT (hdT l.tail) (bs [109,117,116]) then bd (zCa l.tail.tail) fun a l2=>.ok (.mk 8 (bs [38,109,117,116]) 0 (hdT l).place [a],l2)
  else bd (zCa l.tail) fun a l2=>.ok (.mk 8 (bs [38]) 0 (hdT l).place [a],l2)
 else zKa l
def zlc (l:List Tok):R T :=
 bd (zac l) fun s l1=>bd (zxa [bs [58]] l1) fun _ l2=>bd (zpd l2) fun a l3=>.ok (.mk 7 s 0 (hdT l).place [a],l3)
def zdd (l:List Tok):R (List T) :=
 bif isT (hdT l) (bs [123]) then bd (zAd zUb l.tail) fun xs l1=>bd (zxa [bs [125]] l1) fun _ l2=>.ok (xs,l2) else .ok ([],l)
def zXc (l:List Tok):R (List T) :=
 bif isT (hdT l) (bs [119,104,101,114,101]) then zAd zze l.tail else .ok ([],l)
def zzb (p:Nat) (l:List Tok):R T :=
 bd (zac l) fun s l1=>bd (zKd l1) fun a l2=>bd (zdd l2) fun ys l3=>bd (zXc l3) fun zs l4=>bd (zxa [bs [59]] l4) fun _ l5=>.ok (.mk 1 s 0 p (a :: (ys++zs)),l5)
def zLd (k:Int) (p:Nat) (l:List Tok):R T :=
 bd (zac l) fun s l1=>bd (zxa [bs [91]] l1) fun _ l2=>bd (zvb l2) fun v l3=>bd (zxa [bs [93]] l3) fun _ l4=>.ok (.mk k s v p [],l4)
def zqc (p:Nat) (l:List Tok):R T :=
 bif isT (hdT l) (bs [59]) then .ok (.mk 17 e0 0 p [],l) else bd (zKb l) fun a l1=>.ok (.mk 17 e0 0 p [a],l1)
def zwb (l:List Tok):R T :=
 bd (zCa l) fun n l1 =>
  bif isT (hdT l1) (bs [40]) then bd (zLe n l1) fun c l2=>.ok (.mk 20 e0 0 n.place [c],l2)
  else bif isT (hdT l1) (bs [91]) then bd (zDc l1) fun i l2=>bd (zxa [bs [61]] l2) fun _ l3=>bd (zKb l3) fun b l4=>.ok (.mk 11 n.text 0 n.place [i,b],l4)
  else bd (zxa [bs [61]] l1) fun _ l2=>bd (znc l2) fun x l3=>.ok (.mk 10 n.text 0 n.place [x],l3)
def zHa (l:List Tok):R T :=
 bif (hdT l).kind == 1 then zwb l
 else bif isT (hdT l) (bs [102,114,101,101]) then bd (zac l.tail) fun s l1=>.ok (.mk 12 s 0 (hdT l).place [],l1)
 else bif isT (hdT l) (bs [108,111,99,107]) then zLd 13 (hdT l).place l.tail
 else bif isT (hdT l) (bs [117,110,108,111,99,107]) then zLd 14 (hdT l).place l.tail
 else bif isT (hdT l) (bs [114,101,116,117,114,110]) then zqc (hdT l).place l.tail
 else bif isT (hdT l) (bs [97,98,111,114,116]) then .ok (.mk 18 e0 0 (hdT l).place [],l.tail)
 else bif isT (hdT l) (bs [102,111,114,107]) then bd (zac l.tail) fun s l1=>bd (zib zKb l1) fun xs l2=>.ok (.mk 19 s 0 (hdT l).place xs,l2)
 else .error ((hdT l).place,20)
def T.snoc:T→T→T|.mk k s n p ks,b=>.mk k s n p (ks++[b])
def zKh (blk:List Tok→R T) (p:Nat) (l:List Tok):R T :=
 bif isT (hdT l) (bs [101,108,115,101]) then blk l.tail else .ok (.mk 9 e0 0 p [],l)
def ifP (blk:List Tok→R T) (p:Nat) (l:List Tok):R T :=
 bd (zRa 15 p l) fun n l1=>bd (blk l1) fun b l2=>bd (zKh blk p l2) fun c l3=>.ok ((n.snoc b).snoc c,l3)
def zBf (blk:List Tok→R T) (p:Nat) (l:List Tok):R T :=
 bd (zRa 16 p l) fun n l1=>bd (blk l1) fun b l2=>.ok (n.snoc b,l2)
def zzc (blk:List Tok→R T) (l:List Tok):R T :=
 bif isT (hdT l) (bs [105,102]) then ifP blk (hdT l).place l.tail
 else bif isT (hdT l) (bs [119,104,105,108,101]) then zBf blk (hdT l).place l.tail
 else bd (zHa l) fun n l1=>bd (zxa [bs [59]] l1) fun _ l2=>.ok (n,l2)
def zYc (item:List Tok→R T):Nat→List Tok→R (List T)
 | 0,_=>.error (0,0)
 | n+1,l=>bif isT (hdT l) (bs [125]) then .ok ([],l.tail) else bd (item l) fun a l1=>bd (zYc item n l1) fun xs l2=>.ok (a :: xs,l2)
def zgb:Nat→List Tok→R T
 | 0,l=>bd (zxa [bs [123]] l) fun t _=>.error (t.place,21)
 | n+1,l=>bd (zxa [bs [123]] l) fun t l1=>bd (zYc (zzc (zgb n)) l1.length l1) fun xs l2=>.ok (.mk 9 e0 0 t.place xs,l2)
def zbd (l:List Tok):R T :=
 bif isT (hdT l) (bs [45,62]) then zKa l.tail else .ok (.mk 8 e0 0 (hdT l).place [],l)
def fnP (p:Nat) (l:List Tok):R T :=
 bd (zac l) fun s l1=>bd (zib zlc l1) fun xs l2=>bd (zbd l2) fun r l3=>bd (zgb 8 l3) fun b l4=>.ok (.mk 6 s 0 p (xs++[r,b]),l4)
def zhd (l:List Tok):R T :=
 bd (zxa [bs [116,121,112,101],bs [102,110]] l) fun t l1=>bif isT t (bs [116,121,112,101]) then zzb t.place l1 else fnP t.place l1
def zJd:Nat→List Tok→R (List T)
 | 0,_=>.error (0,0)
 | n+1,l=>bif (hdT l).kind == 0 then .ok ([],l) else bd (zhd l) fun a l1=>bd (zJd n l1) fun xs l2=>.ok (a :: xs,l2)
def zPc (l:List Tok):R T:=bd (zJd (l.length+1) l) fun xs l1=>.ok (.mk 0 e0 0 0 xs,l1)
mutual
def T.size:T→Nat
 | .mk _ _ _ _ ks=>1+sizes ks
def sizes:List T→Nat
 | []=>0
 | t :: ts=>t.size+sizes ts
end
def zqb:T:=.mk 0 e0 0 0 []
def zAc (l:List Tok):T × Nat × Int :=
 match zPc l with
 | .error (p,e)=>(zqb,p,e)
 | .ok (t,_)=>if 4096<t.size then (zqb,0,22) else (t,0,0)
def zab (s:ByteArray):T × Nat × Int :=
 match zjc s with
 | .error (p,e)=>(zqb,p,e)
 | .ok ts=>zAc ts
end
end Go.Proofs.YtdhmdfhnkppnmaaDoor
