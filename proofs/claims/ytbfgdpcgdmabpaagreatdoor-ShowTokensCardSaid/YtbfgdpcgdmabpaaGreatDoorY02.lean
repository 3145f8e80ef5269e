/- The contract of lex.numberAt: the token of the number at a place, or ErrNumber; nothing that was in memory is changed. The contract of lex.tokenAt in a world that holds the tables of lex: the token at a place that is no blank, or the fault there; nothing that was in memory is changed. The plain account of lex.Tokens: where each round goes on, and what the whole comes to. Nothing of the program is walked here. The plain account of layer 2: trees, and the reader of tokens, line by line of the grammar in the way that package word reads it. Nothing of the program is walked here. -/
import Derived.Test.YtbfgdpcgdmabpaaGreatDoorY01
namespace Go.Proofs.YtbfgdpcgdmabpaaGreatDoor
set_option maxHeartbeats 1000000
section
open Go.RowKit
def zpe (s:ByteArray) (k:Nat):Nat→Nat
 | 0=>0
 | n+1=>zpe s k n * 10+((bat s (k+n)).toNat-48)
theorem zrn (s:ByteArray) (k n m:Nat):zpe s k n≤zpe s k (n+m):=by
 induction m with
 | zero=>exact Nat.le_refl _
 | succ m ih =>
  rw [← Nat.add_assoc,zpe]
  omega
def zvf (s:ByteArray) (k:Nat):Bool :=
 (bat s k == 48 && decide (k+1<endOf zTd s k)) || (decide (endOf zTd s k<s.size) && zQg ((bat s (endOf zTd s k)).toNat:Int))
def zUd (s:ByteArray) (k:Nat):Except Int Tok :=
 if zvf s k=true∨1099511627776<zpe s k (endOf zTd s k-k) then .error 12
 else .ok ⟨3,s.extract k (endOf zTd s k),zpe s k (endOf zTd s k-k),k⟩
theorem zUp {p:Int→Bool} {s:ByteArray} {k:Nat}:∀ i,k≤i→i<endOf p s k→(h:i<s.size)→p (s[i].toNat:Int)=true:=by
 intro i hki hi h
 obtain ⟨d,rfl⟩:=Nat.exists_eq_add_of_le hki
 induction d generalizing k with
 | zero =>
  rcases Bool.eq_false_or_eq_true (p ((s[k]'h).toNat:Int)) with hp|hp
  ·exact hp
  ·have:=zjh (p:=p) (s:=s) (k:=k) (by omega) hp
   omega
 | succ d ih =>
  cases hp:p ((s[k]'(by omega)).toNat:Int)
  ·have:=zjh (p:=p) (s:=s) (k:=k) (by omega) hp
   omega
  ·have:=zcf (p:=p) (s:=s) (k:=k) (by omega) hp
   have h2:=ih (k:=k+1) (by omega) (by rw [this] at hi;omega) (by omega)
   have e:k+1+d=k+(d+1):=by omega
   simp only [e] at h2
   exact h2
theorem zkm {n:Int} (h:zTd n=true):48≤n∧n≤57:=by unfold zTd at h;simpa using h
theorem zPk (s:ByteArray) (k:Nat) (w:World) (hs:s.size≤maxLen) (hk:k<s.size) (hb:zvf s k=true) :
  Calls Tryz.prog 73 #[.string s,.int .i64 k] w fun e w'=>e=errR 12∧Below w.heap.size w w':=by
 have hs':=hs
 unfold maxLen at hs'
 have hge:=zZf zTd s k
 have hle:=zTe zTd s k (by omega)
 unfold zvf at hb
 rw [zNd s k hk] at hb
 generalize hE:endOf zTd s k=E at *
 have HE:=zh hE
 clear hE
 have hz:((s[k].toNat:Int) == 48)=(s[k] == 48):=by
  rw [Bool.eq_iff_iff]
  simp only [beq_iff_eq,← UInt8.toNat_inj]
  have:(48:UInt8).toNat=48:=rfl
  omega
 have HZ:=zh hz
 clear hz
 by_cases hA:((s[k].toNat:Int) == 48)=true∧k+1<E
 ·obtain ⟨h1,h2⟩:=hA
  have h3:(k:Int)+1<(E:Int):=by omega
  clear hb
  go_enter Tryz.func73,Tryz.ntmps73
  go_wp2_with (go_at_call 37;refine (zRe _ _ _ hs (by omega) (by omega)).mono ?_;rintro e w' ⟨rfl,rfl⟩;rw [Int.toNat_natCast,HE.out])
  exact bodyPost_ret (v:=.tuple #[zJc zOc,.int .i64 12]) (by simp [results,Tryz.results73,go_sem,zJc,zOc]) rfl ⟨rfl,by go_grown⟩
 ·have hB:E<s.size∧zQg ((bat s E).toNat:Int)=true:=by
   rw [← HZ.out] at hb
   cases h1:((s[k].toNat:Int) == 48)
   ·simpa [h1] using hb
   ·have:¬ k+1<E:=fun h=>hA ⟨h1,h⟩
    simpa [h1,this] using hb
  obtain ⟨h1,h2⟩:=hB
  rw [zNd s E h1] at h2
  clear hb
  cases h4:((s[k].toNat:Int) == 48)
  ·clear hA
   go_enter Tryz.func73,Tryz.ntmps73
   go_wp2_with (first
    | (go_at_call 37;refine (zRe _ _ _ hs (by omega) (by omega)).mono ?_;rintro e w' ⟨rfl,rfl⟩;rw [Int.toNat_natCast,HE.out])
    | (go_at_call 70;refine (zhc _ _).mono ?_;rintro e w' ⟨rfl,rfl⟩))
   exact bodyPost_ret (v:=.tuple #[zJc zOc,.int .i64 12]) (by simp [results,Tryz.results73,go_sem,zJc,zOc]) rfl ⟨rfl,by go_grown⟩
  ·have h5:¬ (k:Int)+1<(E:Int):=fun h=>hA ⟨h4,by omega⟩
   clear hA
   go_enter Tryz.func73,Tryz.ntmps73
   go_wp2_with (first
    | (go_at_call 37;refine (zRe _ _ _ hs (by omega) (by omega)).mono ?_;rintro e w' ⟨rfl,rfl⟩;rw [Int.toNat_natCast,HE.out])
    | (go_at_call 70;refine (zhc _ _).mono ?_;rintro e w' ⟨rfl,rfl⟩))
   exact bodyPost_ret (v:=.tuple #[zJc zOc,.int .i64 12]) (by simp [results,Tryz.results73,go_sem,zJc,zOc]) rfl ⟨rfl,by go_grown⟩
def zCl (s:ByteArray) (k:Nat) (w:World) (e:Ending) (w':World):Prop:=e=zns (zUd s k)∧Below w.heap.size w w'
theorem zal {s:ByteArray} {k d:Nat} (hd:k+d≤endOf zTd s k) (h:1099511627776<zpe s k d):zUd s k=.error 12:=by
 unfold zUd
 rw [if_pos]
 right
 have:=zrn s k d (endOf zTd s k-k-d)
 rw [show d+(endOf zTd s k-k-d)=endOf zTd s k-k by omega] at this
 omega
theorem zlo {s:ByteArray} {k d E:Nat} (hb:zvf s k=false) (hE:endOf zTd s k=E) (hd:k+d=E) (h:zpe s k d≤1099511627776):zUd s k=.ok ⟨3,s.extract k E,zpe s k d,k⟩:=by
 unfold zUd
 have e:E-k=d:=by omega
 rw [hE,e,if_neg]
 rw [hb]
 simp
 omega
theorem zWj (s:ByteArray) (k:Nat) (w:World) (hs:s.size≤maxLen) (hk:k<s.size) (hb:zvf s k=false) :
  Calls Tryz.prog 73 #[.string s,.int .i64 k] w fun e w'=>zCl s k w e w':=by
 have HB:=zh hb
 have hs':=hs
 unfold maxLen at hs'
 have hge:=zZf zTd s k
 have hle:=zTe zTd s k (by omega)
 have hmem:=fun i=>zUp (p:=zTd) (s:=s) (k:=k) i
 unfold zvf at hb
 rw [zNd s k hk] at hb
 generalize hE:endOf zTd s k=E at *
 have HE:=zh hE
 have HM:=zh hmem
 clear hE hmem
 have hz:((s[k].toNat:Int) == 48)=(s[k] == 48):=by
  rw [Bool.eq_iff_iff]
  simp only [beq_iff_eq,← UInt8.toNat_inj]
  have:(48:UInt8).toNat=48:=rfl
  omega
 rw [← hz] at hb
 have HZ:=zh hz
 clear hz
 have hA:((s[k].toNat:Int) == 48)=true→¬ k+1<E:=by
  intro h1 h2
  rw [h1] at hb
  simp [h2] at hb
 have hB:∀ h:E<s.size,zQg (s[E].toNat:Int)=false:=by
  intro h
  rw [← zNd s E h]
  cases h3:zQg ((bat s E).toNat:Int)
  ·rfl
  ·rw [h3] at hb;simp [h] at hb
 clear hb
 cases h4:((s[k].toNat:Int) == 48)<;>by_cases h6:E<s.size
 all_goals
  first
  | (have h7:=hB h6)
  | (have h7:¬ (E:Int)<(s.size:Int):=by omega)
  first
  | (have h5:¬ (k:Int)+1<(E:Int):=by have:=hA h4;omega)
  | skip
  clear hA hB
  go_enter Tryz.func73,Tryz.ntmps73
  go_wp2_with (first
   | (go_at_call 37;refine (zRe _ _ _ hs (by omega) (by omega)).mono ?_;rintro e w' ⟨rfl,rfl⟩;rw [Int.toNat_natCast,HE.out])
   | (go_at_call 70;refine (zhc _ _).mono ?_;rintro e w' ⟨rfl,rfl⟩))
  go_loop [7,8] (fun n i=>∃ d:Nat,k+d≤E∧i=.int .i64 (k+d:Nat)∧n=.int .i64 (zpe s k d)∧zpe s k d≤1099511627776) (fun _ i=>E-(intOf i).toNat)
  case atStart=>exact ⟨0,by omega,by simp,rfl,by simp [zpe]⟩
  case round =>
   obtain ⟨d,hd,rfl,rfl,hM⟩:=hrel
   clear h4 h7
   by_cases hlt:k+d<E
   ·have hdl:k+d<s.size:=by omega
    have hdig:=zkm (HM.out (k+d) (by omega) hlt hdl)
    have hnx:zpe s k (d+1)=zpe s k d * 10+(s[k+d].toNat-48):=by rw [zpe,zNd s _ hdl]
    have HN:=zh hnx
    clear hnx
    by_cases hgr:1099511627776<zpe s k (d+1)
    ·have HG:=zh (zal (s:=s) (k:=k) (d:=d+1) (by rw [HE.out];omega) hgr)
     have hgr':1099511627776<(zpe s k d:Int) * 10+((s[k+d].toNat:Int)-48):=by rw [HN.out] at hgr;omega
     clear hgr HN
     generalize hN:zpe s k d=N at *
     generalize hc:(s[k+d].toNat)=c at *
     go_wp2
     unfold zCl
     rw [HG.out]
     exact bodyPost_ret (v:=.tuple #[zJc zOc,.int .i64 12]) (by simp [results,Tryz.results73,go_sem,zJc,zOc]) rfl ⟨rfl,by go_grown⟩
    ·have hgr':¬ 1099511627776<(zpe s k d:Int) * 10+((s[k+d].toNat:Int)-48):=by rw [HN.out] at hgr;omega
     have HV:=zh (show ((zpe s k (d+1):Nat):Int)=(zpe s k d:Int) * 10+((s[k+d].toNat:Int)-48) by rw [HN.out];omega)
     have HL:=zh (show zpe s k (d+1)≤1099511627776 by omega)
     clear hgr HN
     generalize hN:zpe s k d=N at *
     generalize hc:(s[k+d].toNat)=c at *
     go_wp2
     go_round
     case rel=>exact ⟨d+1,by omega,by go_num,by rw [HV.out],HL.out⟩
     case measure=>simp [intOf];omega
   ·have HO:=zh (zlo HB.out HE.out (show k+d=E by omega) hM)
    generalize hN:zpe s k d=N at *
    go_wp2
    unfold zCl
    rw [HO.out]
    exact bodyPost_ret (v:=.tuple #[zJc ⟨3,s.extract k E,N,k⟩,.int .i64 0]) (by simp [results,Tryz.results73,go_sem,zJc]) rfl ⟨rfl,by go_grown⟩
theorem zjl (s:ByteArray) (k:Nat) (w:World) (hs:s.size≤maxLen) (hk:k<s.size) :
  Calls Tryz.prog 73 #[.string s,.int .i64 k] w fun e w'=>e=zns (zUd s k)∧Below w.heap.size w w':=by
 cases hb:zvf s k
 ·exact zWj s k w hs hk hb
 ·have hr:zUd s k=.error 12:=by unfold zUd;rw [if_pos (Or.inl hb)]
  rw [hr]
  exact zPk s k w hs hk hb
end
section
open Go.RowKit
def zzr:Except Int Tok→Tok
 | .ok t=>t
 | .error _=>zOc
def errOf:Except Int Tok→Int
 | .ok _=>0
 | .error e=>e
theorem zih (x:Except Int Tok):zns x=.returned (.tuple #[zJc (zzr x),.int .i64 (errOf x)]):=by cases x<;>rfl
def zae (s:ByteArray) (k:Nat):Except Int Tok :=
 if zQg ((bat s k).toNat:Int)=true then zWc s k else if zTd ((bat s k).toNat:Int)=true then zUd s k else zWe s k
theorem zun {W w1:World} (hb:Below W.heap.size W w1):(∀ b o,b<W.heap.size→w1.cell? ⟨b,o,none⟩=W.cell? ⟨b,o,none⟩)∧(∀ b o,b<W.heap.size→w1.frozen? ⟨b,o,none⟩=W.frozen? ⟨b,o,none⟩) :=
 ⟨fun b o h=>hb.cell (p:=⟨b,o,none⟩) h,fun b o h=>hb.frozen (p:=⟨b,o,none⟩) h⟩
theorem zHi (s:ByteArray) (k:Nat) (w:World) (hs:s.size≤maxLen) (hk:k<s.size) (ht:Tabs w) :
  Calls Tryz.prog 39 #[.string s,.int .i64 k] w fun e w'=>e=zns (zae s k)∧Below w.heap.size w w':=by
 have hs':=hs
 unfold maxLen at hs'
 cases hl:zQg (s[k].toNat:Int)
 ·cases hd:zTd (s[k].toNat:Int)
  ·have hr:zae s k=zWe s k:=by unfold zae;rw [zNd s k hk,if_neg (by simp [hl]),if_neg (by simp [hd])]
   rw [hr,zih]
   clear hr
   generalize hx:zWe s k=x
   have HX:=zh hx
   clear hx
   go_enter Tryz.func39,Tryz.ntmps39
   go_wp2_with (first
    | (go_at_call 70;refine (zhc _ _).mono ?_;rintro e w' ⟨rfl,rfl⟩)
    | (go_at_call 72;refine (zce _ _).mono ?_;rintro e w' ⟨rfl,rfl⟩))
   refine (zzn s k _ hs hk ht.alloc).mono ?_
   rintro e w1 ⟨rfl,hb⟩
   rw [zih,HX.out]
   obtain ⟨hc,hf⟩:=zun hb
   have hz:w.heap.size+1≤w1.heap.size:=by have:=hb.size;simp at this;omega
   have HB:=zh (((Below.refl w.heap.size w).alloc (Nat.le_refl _) _).trans (hb.mono (by simp)))
   clear hb
   unfold zJc
   go_wp2
   exact bodyPost_ret (v:=.tuple #[zJc (zzr x),.int .i64 (errOf x)]) (by simp [results,Tryz.results39,go_sem,zJc,hc]) rfl ⟨rfl,by repeat (first|exact HB.out|refine Below.setCell ?_ (by simp) _)⟩
  ·have hr:zae s k=zUd s k:=by unfold zae;rw [zNd s k hk,if_neg (by simp [hl]),if_pos (by simp [hd])]
   rw [hr,zih]
   clear hr
   generalize hx:zUd s k=x
   have HX:=zh hx
   clear hx
   go_enter Tryz.func39,Tryz.ntmps39
   go_wp2_with (first
    | (go_at_call 70;refine (zhc _ _).mono ?_;rintro e w' ⟨rfl,rfl⟩)
    | (go_at_call 72;refine (zce _ _).mono ?_;rintro e w' ⟨rfl,rfl⟩))
   refine (zjl s k _ hs hk).mono ?_
   rintro e w1 ⟨rfl,hb⟩
   rw [zih,HX.out]
   obtain ⟨hc,hf⟩:=zun hb
   have hz:w.heap.size+1≤w1.heap.size:=by have:=hb.size;simp at this;omega
   have HB:=zh (((Below.refl w.heap.size w).alloc (Nat.le_refl _) _).trans (hb.mono (by simp)))
   clear hb
   unfold zJc
   go_wp2
   exact bodyPost_ret (v:=.tuple #[zJc (zzr x),.int .i64 (errOf x)]) (by simp [results,Tryz.results39,go_sem,zJc,hc]) rfl ⟨rfl,by repeat (first|exact HB.out|refine Below.setCell ?_ (by simp) _)⟩
 ··have hr:zae s k=zWc s k:=by unfold zae;rw [zNd s k hk,if_pos (by simp [hl])]
   rw [hr,zih]
   clear hr
   generalize hx:zWc s k=x
   have HX:=zh hx
   clear hx
   go_enter Tryz.func39,Tryz.ntmps39
   go_wp2_with (first
    | (go_at_call 70;refine (zhc _ _).mono ?_;rintro e w' ⟨rfl,rfl⟩)
    | (go_at_call 72;refine (zce _ _).mono ?_;rintro e w' ⟨rfl,rfl⟩))
   refine (zZn s k _ hs hk ht.alloc).mono ?_
   rintro e w1 ⟨rfl,hb⟩
   rw [zih,HX.out]
   obtain ⟨hc,hf⟩:=zun hb
   have hz:w.heap.size+1≤w1.heap.size:=by have:=hb.size;simp at this;omega
   have HB:=zh (((Below.refl w.heap.size w).alloc (Nat.le_refl _) _).trans (hb.mono (by simp)))
   clear hb
   unfold zJc
   go_wp2
   exact bodyPost_ret (v:=.tuple #[zJc (zzr x),.int .i64 (errOf x)]) (by simp [results,Tryz.results39,go_sem,zJc,hc]) rfl ⟨rfl,by repeat (first|exact HB.out|refine Below.setCell ?_ (by simp) _)⟩
end
section
open Go.RowKit
def zSb (b:UInt8):Bool:=b == 32 || b == 10
def zkg (s:ByteArray):Tok:=⟨0,⟨#[]⟩,0,s.size⟩
abbrev zch:=Except (Nat × Int) (List Tok)
def more (ts:List Tok):zch→zch
 | .ok r=>.ok (ts++r)
 | .error e=>.error e
def lexFrom (s:ByteArray) (k:Nat):zch :=
 if _h:s.size≤k then .ok [zkg s]
 else if zSb (bat s k)=true then lexFrom s (k+1)
 else if bat s k=35 then lexFrom s (max (k+1) (endOf ztn s k))
 else match zae s k with
  | .error e=>.error (k,e)
  | .ok t=>more [t] (lexFrom s (max (k+1) (k+t.text.size)))
termination_by s.size-k
decreasing_by all_goals omega
def zqd (s:ByteArray):zch:=if 16384<s.size then .error (0,10) else lexFrom s 0
theorem zTk (a b:List Tok) (r:zch):more a (more b r)=more (a++b) r:=by cases r<;>simp [more]
theorem zZj (r:zch):more [] r=r:=by cases r<;>simp [more]
theorem zWl {s:ByteArray} {k:Nat} (h:s.size≤k):lexFrom s k=.ok [zkg s]:=by
 rw [lexFrom,dif_pos h]
theorem zHg {s:ByteArray} {k:Nat} (h:k<s.size) (hb:zSb (bat s k)=true):lexFrom s k=lexFrom s (k+1):=by
 rw [lexFrom,dif_neg (by omega),if_pos hb]
theorem zMd (s:ByteArray) (a b:Nat) (h:b≤s.size):(s.extract a b).size=b-a:=by
 rw [ByteArray.size_extract,Nat.min_eq_left h]
theorem zPf {s:ByteArray} {k:Nat} (h:k<s.size) (hb:bat s k=35):k+1≤endOf ztn s k:=by
 have hp:ztn ((s[k]).toNat:Int)=true:=by rw [← zNd s k h,hb];rfl
 rw [zcf h hp]
 exact zZf _ _ _
theorem zAj {s:ByteArray} {k:Nat} (h:k<s.size) (hb:bat s k=35):lexFrom s k=lexFrom s (endOf ztn s k):=by
 have hnb:¬ zSb (bat s k)=true:=by rw [hb];decide
 rw [lexFrom,dif_neg (by omega),if_neg hnb,if_pos hb,Nat.max_eq_right (zPf h hb)]
theorem zrp {s:ByteArray} {k:Nat} {e:Int} (h:k<s.size) (hb:zSb (bat s k)=false) (hr:¬ bat s k=35) (ht:zae s k=.error e):lexFrom s k=.error (k,e):=by
 rw [lexFrom,dif_neg (by omega),if_neg (by simp [hb]),if_neg hr,ht]
theorem zzk {s:ByteArray} {k:Nat} {t:Tok} (h:k<s.size) (hl:zQg ((bat s k).toNat:Int)=true) (ht:zWc s k=.ok t):1≤t.text.size∧k+t.text.size≤s.size:=by
 have hp:zLd ((s[k]).toNat:Int)=true:=by rw [← zNd s k h];unfold zLd;rw [hl];rfl
 have h1:k+1≤endOf zLd s k:=by rw [zcf h hp];exact zZf _ _ _
 have h2:=zTe zLd s k (by omega)
 unfold zWc at ht
 split at ht
 ·cases ht
 ·split at ht
  all_goals
   injection ht with ht
   subst ht
   simp only [zMd s k _ h2]
   omega
theorem zRq {s:ByteArray} {k:Nat} {t:Tok} (h:k<s.size) (hl:zTd ((bat s k).toNat:Int)=true) (ht:zUd s k=.ok t):1≤t.text.size∧k+t.text.size≤s.size:=by
 have hp:zTd ((s[k]).toNat:Int)=true:=by rw [← zNd s k h];exact hl
 have h1:k+1≤endOf zTd s k:=by rw [zcf h hp];exact zZf _ _ _
 have h2:=zTe zTd s k (by omega)
 unfold zUd at ht
 split at ht
 ·cases ht
 ·injection ht with ht
  subst ht
  simp only [zMd s k _ h2]
  omega
theorem zxq {s:ByteArray} {k i:Nat} (hi:i<3) (hk:k<s.size) (h:zNe (s.extract k s.size) (zcd i)=true):k+2≤s.size:=by
 unfold zNe at h
 rw [Bool.and_eq_true] at h
 have:=h.1
 rw [zMd s k _ (Nat.le_refl _),zuf i hi] at this
 simp at this
 omega
theorem zIg {s:ByteArray} {k:Nat} (h:k<s.size):∀ (n:Nat) (t:Tok),n≤3→zGb s k n=.ok t→1≤t.text.size∧k+t.text.size≤s.size
 | 0,t,_,ht=>by
  unfold zGb zpf at ht
  split at ht
  ·injection ht with ht
   subst ht
   simp only [zMd s k _ (show k+1≤s.size by omega)]
   omega
  ·cases ht
 | n+1,t,hn,ht=>by
  unfold zGb at ht
  split at ht
  ·rename_i hp
   have:=zxq (by omega) h hp
   injection ht with ht
   subst ht
   simp only [zuf (2-n) (by omega)]
   omega
  ·exact zIg h n t (by omega) ht
theorem zgf {s:ByteArray} {k:Nat} {t:Tok} (h:k<s.size) (ht:zae s k=.ok t):1≤t.text.size∧k+t.text.size≤s.size:=by
 unfold zae at ht
 split at ht
 ·exact zzk h (by assumption) ht
 ·split at ht
  ·exact zRq h (by assumption) ht
  ·exact zIg h 3 t (Nat.le_refl _) ht
theorem zlm {s:ByteArray} {k:Nat} {t:Tok} (h:k<s.size) (hb:zSb (bat s k)=false) (hr:¬ bat s k=35) (ht:zae s k=.ok t):lexFrom s k=more [t] (lexFrom s (k+t.text.size)):=by
 have:=(zgf h ht).1
 rw [lexFrom,dif_neg (by omega),if_neg (by simp [hb]),if_neg hr,ht]
 simp only
 rw [Nat.max_eq_right (by omega)]
end
section
open Go.RowKit
inductive T where
 | mk (kind:Int) (text:ByteArray) (num:Int) (place:Nat) (kids:List T)
def T.kids:T→List T|.mk _ _ _ _ ks=>ks
def T.text:T→ByteArray|.mk _ s _ _ _=>s
def T.place:T→Nat|.mk _ _ _ p _=>p
def T.kind:T→Int|.mk k _ _ _ _=>k
def T.num:T→Int|.mk _ _ n _ _=>n
abbrev R (α:Type):=Except (Nat × Int) (α × List Tok)
def bd {α β:Type} (r:R α) (f:α→List Tok→R β):R β :=
 match r with
 | .error e=>.error e
 | .ok (a,l)=>f a l
theorem zHa {α β:Type} {r:R α} {a:α} {l:List Tok} (h:r=.ok (a,l)) (f:α→List Tok→R β):bd r f=f a l:=by rw [h];rfl
theorem zNa {α β:Type} {r:R α} {e:Nat × Int} (h:r=.error e) (f:α→List Tok→R β):bd r f=.error e:=by rw [h];rfl
def hdT (l:List Tok):Tok:=l.headD zOc
def bs (l:List UInt8):ByteArray:=⟨l.toArray⟩
def isT (t:Tok) (s:ByteArray):Bool:=t.text.toList == s.toList
def zSa (ss:List ByteArray) (l:List Tok):R Tok:=bif ss.any (isT (hdT l)) then .ok (hdT l,l.tail) else .error ((hdT l).place,20)
def zCf (k:Nat) (l:List Tok):R Tok:=bif (hdT l).kind == k then .ok (hdT l,l.tail) else .error ((hdT l).place,20)
def zdd (l:List Tok):R ByteArray:=bd (zCf 1 l) fun t l=>.ok (t.text,l)
def zVb (l:List Tok):R Int:=bd (zCf 3 l) fun t l=>.ok ((t.num:Int),l)
def e0:ByteArray:=⟨#[]⟩
def zbe (item:List Tok→R T):Nat→List Tok→R (List T)
 | 0,_=>.error (0,0)
 | n+1,l=>bif isT (hdT l) (bs [44]) then bd (item l.tail) fun a l=>bd (zbe item n l) fun xs l=>.ok (a :: xs,l) else .ok ([],l)
def zsd (item:List Tok→R T) (l:List Tok):R (List T):=bd (item l) fun a l=>bd (zbe item l.length l) fun xs l=>.ok (a :: xs,l)
def zwb (item:List Tok→R T) (l:List Tok):R (List T) :=
 bd (zSa [bs [40]] l) fun _ l=>bif isT (hdT l) (bs [41]) then .ok ([],l.tail) else bd (zsd item l) fun xs l=>bd (zSa [bs [41]] l) fun _ l=>.ok (xs,l)
def zYa (l:List Tok):R T:=bd (zdd l) fun s l1=>.ok (.mk 5 s 0 (hdT l).place [],l1)
def zWa (l:List Tok):R T :=
 bif isT (hdT l) (bs [45]) then bd (zVb l.tail) fun n l1=>.ok (.mk 5 e0 (-n) (hdT l).place [],l1)
 else bd (zVb l) fun n l1=>.ok (.mk 5 e0 n (hdT l).place [],l1)
def sumP (l:List Tok):Option (Int × Int):=bif isT (hdT l) (bs [43]) then some (21,1) else bif isT (hdT l) (bs [45]) then some (22,-1) else none
def zin (r:Option (Int × Int)) (a:R T) (f:Int→Int→R T):R T :=
 match r with
 | none=>a
 | some (k,x)=>f k x
theorem zdj {r:Option (Int × Int)} (h:r=none) (a:R T) (f:Int→Int→R T):zin r a f=a:=by rw [h];rfl
theorem zif {r:Option (Int × Int)} {k x:Int} (h:r=some (k,x)) (a:R T) (f:Int→Int→R T):zin r a f=f k x:=by rw [h];rfl
def T.zAc (v:Int):T→T|.mk k s _ p ks=>.mk k s v p ks
def zZb (l:List Tok):R T :=
 bif (hdT l).kind == 1 then bd (zYa l) fun n l1=>zin (sumP l1) (.ok (n,l1)) fun _ f=>bd (zVb l1.tail) fun v l2=>.ok (n.zAc (f * v),l2)
 else zWa l
def zMc (l:List Tok):R T:=bd (zSa [bs [91]] l) fun _ l=>bd (zZb l) fun a l=>bd (zSa [bs [93]] l) fun _ l=>.ok (a,l)
def zne (n:T) (l:List Tok):R T:=bd (zwb zZb l) fun xs l=>.ok (.mk 28 n.text 0 n.place xs,l)
def zQh (p:Nat) (l:List Tok):R T :=
 bif isT (hdT l) (bs [109,117,116]) then bd (zdd l.tail) fun s l=>.ok (.mk 27 s 0 p [],l) else bd (zdd l) fun s l=>.ok (.mk 26 s 0 p [],l)
def zUa (l:List Tok):R T :=
 bd (zYa l) fun n l =>
  bif isT (hdT l) (bs [91]) then bd (zMc l) fun a l=>.ok (.mk 25 n.text 0 n.place [a],l)
  else bif isT (hdT l) (bs [40]) then zne n l
  else zin (sumP l) (.ok (n,l)) fun k f =>
   bif (hdT l.tail).kind == 1 then bd (zYa l.tail) fun m l=>.ok (.mk k e0 0 n.place [n,m],l)
   else bd (zVb l.tail) fun v l=>.ok (n.zAc (f * v),l)
def zbc (l:List Tok):R T :=
 bif isT (hdT l) (bs [110,101,119]) then bd (zVb l.tail) fun v l1=>.ok (.mk 23 e0 v (hdT l).place [],l1)
 else bif isT (hdT l) (bs [97,114,114,97,121]) then bd (zdd l.tail) fun s l1=>.ok (.mk 24 s 0 (hdT l).place [],l1)
 else bif isT (hdT l) (bs [38]) then zQh (hdT l).place l.tail
 else bif (hdT l).kind == 1 then zUa l
 else zWa l
def zrb (k:Int) (p:Nat) (l:List Tok):R T :=
 bd (zZb l) fun a l=>bd (zSa [bs [60],bs [60,61],bs [61,61]] l) fun c l=>bd (zZb l) fun b l=>.ok (.mk k c.text 0 p [a,b],l)
def zre (l:List Tok):R T:=zrb 4 (hdT l).place l
def zjc (l:List Tok):R T :=
 bd (zdd l) fun s l1=>bif isT (hdT l1) (bs [91]) then bd (zYa l1.tail) fun a l2=>bd (zSa [bs [93]] l2) fun _ l3=>.ok (.mk 3 s 0 (hdT l).place [a],l3) else .ok (.mk 3 s 0 (hdT l).place [],l1)
def zld (l:List Tok):R T :=
 bd (zSa [bs [111,119,110],bs [99,101,108,108],bs [99,111,117,110,116,101,100],bs [108,111,99,107],bs [103,117,97,114,100]] l) fun t l1 =>
  bif isT t (bs [111,119,110]) || isT t (bs [99,101,108,108]) then .ok (.mk 2 t.text 0 t.place [],l1) else bd (zYa l1) fun a l2=>.ok (.mk 2 t.text 0 t.place [a],l2)
def zeb (l:List Tok):R T :=
 bd (zSa [bs [105,110,116],bs [111,119,110]] l) fun t l1 =>
  bif isT t (bs [111,119,110]) then bd (zYa l1) fun a l2=>.ok (.mk 8 t.text 0 t.place [a],l2) else .ok (.mk 8 t.text 0 t.place [],l1)
def zwd (l:List Tok):R T :=
 bif isT (hdT l) (bs [38]) then
  bif isT (hdT l.tail) (bs [109,117,116]) then bd (zYa l.tail.tail) fun a l2=>.ok (.mk 8 (bs [38,109,117,116]) 0 (hdT l).place [a],l2)
  else bd (zYa l.tail) fun a l2=>.ok (.mk 8 (bs [38]) 0 (hdT l).place [a],l2)
 else zeb l
def zBc (l:List Tok):R T :=
 bd (zdd l) fun s l1=>bd (zSa [bs [58]] l1) fun _ l2=>bd (zwd l2) fun a l3=>.ok (.mk 7 s 0 (hdT l).place [a],l3)
def zoc (l:List Tok):R (List T) :=
 bif isT (hdT l) (bs [123]) then bd (zsd zjc l.tail) fun xs l1=>bd (zSa [bs [125]] l1) fun _ l2=>.ok (xs,l2) else .ok ([],l)
def zPc (l:List Tok):R (List T) :=
 bif isT (hdT l) (bs [119,104,101,114,101]) then zsd zre l.tail else .ok ([],l)
def zqc (p:Nat) (l:List Tok):R T :=
 bd (zdd l) fun s l1=>bd (zld l1) fun a l2=>bd (zoc l2) fun ys l3=>bd (zPc l3) fun zs l4=>bd (zSa [bs [59]] l4) fun _ l5=>.ok (.mk 1 s 0 p (a :: (ys++zs)),l5)
def zGd (k:Int) (p:Nat) (l:List Tok):R T :=
 bd (zdd l) fun s l1=>bd (zSa [bs [91]] l1) fun _ l2=>bd (zVb l2) fun v l3=>bd (zSa [bs [93]] l3) fun _ l4=>.ok (.mk k s v p [],l4)
def zdc (p:Nat) (l:List Tok):R T :=
 bif isT (hdT l) (bs [59]) then .ok (.mk 17 e0 0 p [],l) else bd (zZb l) fun a l1=>.ok (.mk 17 e0 0 p [a],l1)
def zHb (l:List Tok):R T :=
 bd (zYa l) fun n l1 =>
  bif isT (hdT l1) (bs [40]) then bd (zne n l1) fun c l2=>.ok (.mk 20 e0 0 n.place [c],l2)
  else bif isT (hdT l1) (bs [91]) then bd (zMc l1) fun i l2=>bd (zSa [bs [61]] l2) fun _ l3=>bd (zZb l3) fun b l4=>.ok (.mk 11 n.text 0 n.place [i,b],l4)
  else bd (zSa [bs [61]] l1) fun _ l2=>bd (zbc l2) fun x l3=>.ok (.mk 10 n.text 0 n.place [x],l3)
def zbb (l:List Tok):R T :=
 bif (hdT l).kind == 1 then zHb l
 else bif isT (hdT l) (bs [102,114,101,101]) then bd (zdd l.tail) fun s l1=>.ok (.mk 12 s 0 (hdT l).place [],l1)
 else bif isT (hdT l) (bs [108,111,99,107]) then zGd 13 (hdT l).place l.tail
 else bif isT (hdT l) (bs [117,110,108,111,99,107]) then zGd 14 (hdT l).place l.tail
 else bif isT (hdT l) (bs [114,101,116,117,114,110]) then zdc (hdT l).place l.tail
 else bif isT (hdT l) (bs [97,98,111,114,116]) then .ok (.mk 18 e0 0 (hdT l).place [],l.tail)
 else bif isT (hdT l) (bs [102,111,114,107]) then bd (zdd l.tail) fun s l1=>bd (zwb zZb l1) fun xs l2=>.ok (.mk 19 s 0 (hdT l).place xs,l2)
 else .error ((hdT l).place,20)
def T.snoc:T→T→T|.mk k s n p ks,b=>.mk k s n p (ks++[b])
def zbf (blk:List Tok→R T) (p:Nat) (l:List Tok):R T :=
 bif isT (hdT l) (bs [101,108,115,101]) then blk l.tail else .ok (.mk 9 e0 0 p [],l)
def ifP (blk:List Tok→R T) (p:Nat) (l:List Tok):R T :=
 bd (zrb 15 p l) fun n l1=>bd (blk l1) fun b l2=>bd (zbf blk p l2) fun c l3=>.ok ((n.snoc b).snoc c,l3)
def zVd (blk:List Tok→R T) (p:Nat) (l:List Tok):R T :=
 bd (zrb 16 p l) fun n l1=>bd (blk l1) fun b l2=>.ok (n.snoc b,l2)
def zPb (blk:List Tok→R T) (l:List Tok):R T :=
 bif isT (hdT l) (bs [105,102]) then ifP blk (hdT l).place l.tail
 else bif isT (hdT l) (bs [119,104,105,108,101]) then zVd blk (hdT l).place l.tail
 else bd (zbb l) fun n l1=>bd (zSa [bs [59]] l1) fun _ l2=>.ok (n,l2)
def zsc (item:List Tok→R T):Nat→List Tok→R (List T)
 | 0,_=>.error (0,0)
 | n+1,l=>bif isT (hdT l) (bs [125]) then .ok ([],l.tail) else bd (item l) fun a l1=>bd (zsc item n l1) fun xs l2=>.ok (a :: xs,l2)
def zsb:Nat→List Tok→R T
 | 0,l=>bd (zSa [bs [123]] l) fun t _=>.error (t.place,21)
 | n+1,l=>bd (zSa [bs [123]] l) fun t l1=>bd (zsc (zPb (zsb n)) l1.length l1) fun xs l2=>.ok (.mk 9 e0 0 t.place xs,l2)
def zmc (l:List Tok):R T :=
 bif isT (hdT l) (bs [45,62]) then zeb l.tail else .ok (.mk 8 e0 0 (hdT l).place [],l)
def fnP (p:Nat) (l:List Tok):R T :=
 bd (zdd l) fun s l1=>bd (zwb zBc l1) fun xs l2=>bd (zmc l2) fun r l3=>bd (zsb 8 l3) fun b l4=>.ok (.mk 6 s 0 p (xs++[r,b]),l4)
def zHd (l:List Tok):R T :=
 bd (zSa [bs [116,121,112,101],bs [102,110]] l) fun t l1=>bif isT t (bs [116,121,112,101]) then zqc t.place l1 else fnP t.place l1
def zRd:Nat→List Tok→R (List T)
 | 0,_=>.error (0,0)
 | n+1,l=>bif (hdT l).kind == 0 then .ok ([],l) else bd (zHd l) fun a l1=>bd (zRd n l1) fun xs l2=>.ok (a :: xs,l2)
def zgd (l:List Tok):R T:=bd (zRd (l.length+1) l) fun xs l1=>.ok (.mk 0 e0 0 0 xs,l1)
mutual
def T.size:T→Nat
 | .mk _ _ _ _ ks=>1+sizes ks
def sizes:List T→Nat
 | []=>0
 | t :: ts=>t.size+sizes ts
end
def zNc:T:=.mk 0 e0 0 0 []
def zUc (l:List Tok):T × Nat × Int :=
 match zgd l with
 | .error (p,e)=>(zNc,p,e)
 | .ok (t,_)=>if 4096<t.size then (zNc,0,22) else (t,0,0)
def zvb (s:ByteArray):T × Nat × Int :=
 match zqd s with
 | .error (p,e)=>(zNc,p,e)
 | .ok ts=>zUc ts
end
end Go.Proofs.YtbfgdpcgdmabpaaGreatDoor
