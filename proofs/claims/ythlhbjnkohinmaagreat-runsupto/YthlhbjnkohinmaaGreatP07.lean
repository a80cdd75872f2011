import Derived.Test.YthlhbjnkohinmaaGreatP06
namespace Go.Proofs.YthlhbjnkohinmaaGreat
set_option maxRecDepth 100000
set_option maxHeartbeats 8000000
open Go.RowKit
theorem sU {s:ByteArray} {p:Nat} (h:b7 s p=true):3≤aG s p∧p+aG s p≤s.size∧(aQ (bt s p)=true→aG s p=3):=by
 have hg:=oW h
 unfold b7 at h
 by_cases h33:bt s p=33
 ·have hlt:p<s.size:=dd (by omega)
  have hle:=lg hlt
  simp only[h33,if_true] at h
  have e:aG s p=4:=by unfold aG;simp only[h33,if_true];have:bx s (p+1)=3:=by simpa using h
                 omega
  exact⟨by omega,hle,fun hc=>by rw[h33] at hc;exact absurd hc (by decide)⟩
 ·by_cases hc:aQ (bt s p)=true
  ·have hle:=lg (dP hc)
   simp only[h33,hc,if_false,if_true] at h
   have e:aG s p=3:=by unfold aG;simp only[h33,hc,if_false,if_true];simpa using h
   exact⟨by omega,hle,fun _=>e⟩
  ·simp only[h33,hc,if_false] at h
   have e:aG s p=3:=by unfold aG;simp only[h33,hc,if_false];simpa using h
   have ht:bT s p=3:=by simpa using h
   have hlt:p<s.size:=by
    unfold bT at ht
    split at ht
    ·exact gj (by assumption)
    ·omega
   exact⟨by omega,lg hlt,fun _=>e⟩
theorem hJ (u:ByteArray) (w:World) (h:0<u.size) :
  Calls Tryz.prog 107 #[.string u] w fun e w'=>e=.returned (.bool (aQ (bt u 0)))∧w=w':=by
 have hb:=bV u 0
 have HB:=af (bg h)
 rw[HB.out] at hb ⊢
 go_enter Tryz.func107,Tryz.ntmps107
 go_wp2_with (go_at_call 45;refine (gP _ _ hb.1 hb.2).mono ?_;rintro e w' ⟨rfl,rfl⟩)
 go_ret
 exact⟨rfl,rfl⟩
def fC (s:ByteArray) (L:List Nat) (v:Int):Bool:=L.any fun p=>aQ (bt s p)&&(bt s (p+1)==v||bt s (p+2)==v)
theorem tP {s:ByteArray} {L:List Nat} {v:Int} {k:Nat} (hk:k<L.length):fC s (L.take (k+1)) v=(fC s (L.take k) v||(aQ (bt s L[k])&&(bt s (L[k]+1)==v||bt s (L[k]+2)==v))):=by
 unfold fC
 rw[List.take_succ_eq_append_getElem hk,List.any_append]
 simp
theorem sq {s:ByteArray} {L:List Nat} {v:Int} {k:Nat} (h:fC s (L.take k) v=true):fC s L v=true:=by
 unfold fC at h ⊢
 rw[←List.take_append_drop k L,List.any_append,h];rfl
theorem j5 {s:ByteArray} {p n k:Nat} (hn:p+n≤s.size) (hk:k<n):bt (s.extract p (p+n)) k=bt s (p+k):=iY hn (by omega)
theorem zh (s:ByteArray) (L:List Nat) (v:Int) (a:Option Addr) (m c B:Nat) (w:World) (_hv:0≤v∧v≤255) (hL:∀ p∈L,b7 s p=true) (hlen:L.length≤400)
  (h:w.ownsRow B 9 1 (.slice a m c) L.length (dJ s L)) :
  Calls Tryz.prog 131 #[.slice a m c,.int .u8 v] w fun e w'=>e=.returned (.bool (fC s L v))∧w=w':=by
 have e1:=ar h
 subst e1
 have HL:=af hL
 clear hL
 obtain⟨q,hq⟩:∃ q,q=fC s L v:=⟨_,rfl⟩
 rw[←hq]
 have HQ:=af hq
 clear hq
 go_enter Tryz.func131,Tryz.ntmps131
 go_wp2_with fail
 go_loop [5] (fun t=>∃ k:Nat,k≤L.length∧t=.int .i64 k∧fC s (L.take k) v=false) (fun t=>L.length - (intOf t).toNat)
 case atStart=>exact⟨0,Nat.zero_le _,rfl,rfl⟩
 case round=>
  obtain⟨k,hk,rfl,hno⟩:=hrel
  have HN:=af hno
  clear hno
  by_cases hlt:k<L.length
  ·obtain⟨g,rfl,_,hgb,hgl,hcell⟩:=aC h (by omega)
   have hok:=HL.out L[k] (List.getElem_mem hlt)
   obtain⟨p3,ps,p4⟩:=sU hok
   have hce:w.cell? ⟨g,k,none⟩=some (.string (s.extract L[k] (L[k]+aG s L[k]))):=hcell k _ (by simp[dJ,hlt])
   clear hcell
   obtain⟨u,hu⟩:∃ u,u=s.extract L[k] (L[k]+aG s L[k]):=⟨_,rfl⟩
   rw[←hu] at hce
   have husz:u.size=aG s L[k]:=by rw[hu,da ps];omega
   have v0:bt u 0=bt s L[k]:=by rw[hu,j5 ps (by omega)];rfl
   have v1:bt u 1=bt s (L[k]+1):=by rw[hu,j5 ps (by omega)]
   have v2:bt u 2=bt s (L[k]+2):=by rw[hu,j5 ps (by omega)]
   have u3:3≤u.size:=by omega
   have u0:0<u.size:=by omega
   have u1:1<u.size:=by omega
   have u2:2<u.size:=by omega
   rw[bg u1] at v1
   rw[bg u2] at v2
   have HT:=af (tP (s:=s) (v:=v) hlt)
   rw[HN.out,Bool.false_or,←v0,←v1,←v2] at HT
   have HPT:=af (fun W=>hJ u W u0)
   clear v0 v1 v2 hu husz hok p3 ps p4
   by_cases hc:aQ (bt u 0)=true
   ·rw[hc] at HPT HT
    by_cases h1:((u[1]'u1).toNat:Int)=v
    ·have HU:Hid (q=true):=af (by rw[HQ.out];exact sq (by rw[HT.out];simp[h1]))
     have q1:(((u[1]'u1).toNat:Int)==v)=true:=by simpa using h1
     clear h1
     go_wp2_with (go_at_call 107;refine (HPT.out _).mono ?_;rintro e w' ⟨rfl,rfl⟩)
     go_ret
     exact⟨cY HU.out.symm,rfl⟩
    ·have q1:(((u[1]'u1).toNat:Int)==v)=false:=by simpa using h1
     by_cases h2:((u[2]'u2).toNat:Int)=v
     ·have HU:Hid (q=true):=af (by rw[HQ.out];exact sq (by rw[HT.out];simp[h2]))
      have q2:(((u[2]'u2).toNat:Int)==v)=true:=by simpa using h2
      clear h1 h2
      go_wp2_with (go_at_call 107;refine (HPT.out _).mono ?_;rintro e w' ⟨rfl,rfl⟩)
      go_ret
      exact⟨cY HU.out.symm,rfl⟩
     ·have q2:(((u[2]'u2).toNat:Int)==v)=false:=by simpa using h2
      have HT':Hid (fC s (L.take (k+1)) v=false):=af (by rw[HT.out];simp[q1,q2])
      clear h1 h2
      go_wp2_with (go_at_call 107;refine (HPT.out _).mono ?_;rintro e w' ⟨rfl,rfl⟩)
      go_round
      case rel=>exact⟨k+1,by omega,by go_num,HT'.out⟩
      case measure=>simp[intOf];omega
   ·have hc':aQ (bt u 0)=false:=by simpa using hc
    rw[hc'] at HPT HT
    have HT':Hid (fC s (L.take (k+1)) v=false):=af (by rw[HT.out];simp)
    go_wp2_with (go_at_call 107;refine (HPT.out _).mono ?_;rintro e w' ⟨rfl,rfl⟩)
    go_round
    case rel=>exact⟨k+1,by omega,by go_num,HT'.out⟩
    case measure=>simp[intOf];omega
  ·have HU:Hid (q=false):=af (by rw[HQ.out];have:=HN.out;rwa [List.take_of_length_le (by omega)] at this)
   go_wp2
   go_ret
   exact⟨cY HU.out.symm,rfl⟩
def cn (s:ByteArray) (L:List Nat) (c:Int):Bool:=!(ew c)||fC s L c
def cV (s:ByteArray) (L:List Nat) (p n:Nat):Bool:=(List.range n).all fun q=>cn s L (bt s (p+q))
theorem ci (s:ByteArray) (L:List Nat) (p n:Nat):cV s L p (n+1)=(cV s L p n&&cn s L (bt s (p+n))):=by
 unfold cV;rw[List.range_succ,List.all_append];simp
theorem tl {s:ByteArray} {L:List Nat} {p n m:Nat} (h:cV s L p n=false) (hm:n≤m):cV s L p m=false:=by
 induction m with
 |zero=>rw[show n=0 by omega] at h;exact h
 |succ m ih=>
  by_cases e:n=m+1
  ·rw[←e];exact h
  ·rw[ci,ih (by omega)];rfl
theorem sk (s:ByteArray) (L:List Nat) (p n:Nat) (a:Option Addr) (m c B:Nat) (w:World) (hp:p+n≤s.size) (hs:s.size≤400) (hL:∀ p∈L,b7 s p=true) (hlen:L.length≤400)
  (h:w.ownsRow B 9 1 (.slice a m c) L.length (dJ s L)) :
  Calls Tryz.prog 108 #[.slice a m c,.string (s.extract p (p+n))] w fun e w'=>e=.returned (.bool (cV s L p n))∧w=w':=by
 have HA:=af (fun v hv=>zh s L v a m c B w hv hL hlen h)
 clear hL h hlen
 obtain⟨q,hq⟩:∃ q,q=cV s L p n:=⟨_,rfl⟩
 rw[←hq]
 have HQ:=af hq
 clear hq
 obtain⟨u,hu⟩:∃ u,u=s.extract p (p+n):=⟨_,rfl⟩
 rw[←hu]
 have husz:u.size=n:=by rw[hu,da hp];omega
 have HB:Hid (∀ k (hk:k<u.size),((u[k]'hk).toNat:Int)=bt s (p+k)):=af (by
  intro k hk;rw[←bg hk,hu,j5 hp (by omega)])
 have hun:n≤400:=by omega
 clear hu
 subst husz
 go_enter Tryz.func108,Tryz.ntmps108
 go_wp2_with fail
 go_loop [5] (fun t=>∃ k:Nat,k≤u.size∧t=.int .i64 k∧cV s L p k=true) (fun t=>u.size - (intOf t).toNat)
 case atStart=>exact⟨0,Nat.zero_le _,rfl,rfl⟩
 case round=>
  obtain⟨k,hk,rfl,hno⟩:=hrel
  have HN:=af hno
  clear hno
  by_cases hlt:k<u.size
  ·have hb:=bV s (p+k)
   rw[←HB.out k hlt] at hb
   have HT:=af (ci s L p k)
   rw[HN.out,Bool.true_and,←HB.out k hlt,cn] at HT
   have HLT:=af (fun W=>qy ((u[k]'hlt).toNat:Int) W hb.1 hb.2)
   have HAM:=af (HA.out ((u[k]'hlt).toNat:Int) hb)
   by_cases hl:ew ((u[k]'hlt).toNat:Int)=true
   ·rw[hl] at HLT HT
    by_cases ha:fC s L ((u[k]'hlt).toNat:Int)=true
    ·rw[ha] at HAM HT
     clear hl ha
     go_wp2_with (first|(go_at_call 130;refine (HLT.out _).mono ?_;rintro e w' ⟨rfl,rfl⟩)|(go_at_call 131;refine HAM.out.mono ?_;rintro e w' ⟨rfl,rfl⟩))
     go_round
     case rel=>exact⟨k+1,by omega,by go_num,by rw[HT.out];rfl⟩
     case measure=>simp[intOf];omega
    ·have ha':fC s L ((u[k]'hlt).toNat:Int)=false:=by simpa using ha
     rw[ha'] at HAM HT
     have HU:Hid (q=false):=af (by rw[HQ.out];exact tl (n:=k+1) (by rw[HT.out];rfl) (by omega))
     clear hl ha ha'
     go_wp2_with (first|(go_at_call 130;refine (HLT.out _).mono ?_;rintro e w' ⟨rfl,rfl⟩)|(go_at_call 131;refine HAM.out.mono ?_;rintro e w' ⟨rfl,rfl⟩))
     go_ret
     exact⟨cY HU.out.symm,rfl⟩
   ·have hl':ew ((u[k]'hlt).toNat:Int)=false:=by simpa using hl
    rw[hl'] at HLT HT
    clear hl hl'
    go_wp2_with (first|(go_at_call 130;refine (HLT.out _).mono ?_;rintro e w' ⟨rfl,rfl⟩)|(go_at_call 131;refine HAM.out.mono ?_;rintro e w' ⟨rfl,rfl⟩))
    go_round
    case rel=>exact⟨k+1,by omega,by go_num,by rw[HT.out];rfl⟩
    case measure=>simp[intOf];omega
  ·have HU:Hid (q=true):=af (by rw[HQ.out,←HN.out,show k=u.size by omega])
   go_wp2
   go_ret
   exact⟨cY HU.out.symm,rfl⟩
def eu (s:ByteArray) (L:List Nat):Nat:=(L.filter fun p=>aQ (bt s p)).length
theorem ql (s:ByteArray) (L:List Nat) (k:Nat) (hk:k<L.length):eu s (L.take (k+1))=eu s (L.take k)+if aQ (bt s L[k])=true then 1 else 0:=by
 rw[List.take_succ_eq_append_getElem hk]
 unfold eu
 rw[List.filter_append,List.length_append]
 by_cases h:aQ (bt s L[k])=true <;> simp[h]
theorem mX (s:ByteArray) (L:List Nat):eu s L≤L.length:=List.length_filter_le _ _
theorem sG (s:ByteArray) (L:List Nat) (x:Int) (a a2:Option Addr) (m c m2 c2 B:Nat) (w:World) (hL:∀ p∈L,b7 s p=true) (hlen:L.length≤400)
  (h:w.ownsRow B 9 1 (.slice a m c) L.length (dJ s L)) :
  Calls Tryz.prog 78 #[.agg #[.int .i64 x,.slice a m c,.slice a2 m2 c2]] w fun e w'=>e=.returned (.int .i64 (eu s L:Nat))∧w.grownBy w' none:=by
 have e1:=ar h
 subst e1
 have HL:=af hL
 clear hL
 go_enter Tryz.func78,Tryz.ntmps78
 go_wp2_with fail
 have h0:=h.alloc (.cells #[.int .i64 x,.slice a L.length c,.slice a2 m2 c2] 155)
 go_loop [3,4] (fun n t=>∃ k:Nat,k≤L.length∧t=.int .i64 k∧n=.int .i64 (eu s (L.take k):Nat)) (fun _ t=>L.length - (intOf t).toNat)
 case atStart=>exact⟨0,Nat.zero_le _,rfl,rfl⟩
 case round=>
  obtain⟨k,hk,rfl,rfl⟩:=hrel
  by_cases hlt:k<L.length
  ·obtain⟨g,rfl,_,hgb,hgl,hcell⟩:=aC h (by omega)
   have hok:=HL.out L[k] (List.getElem_mem hlt)
   obtain⟨p3,ps,p4⟩:=sU hok
   have hce:w.cell? ⟨g,k,none⟩=some (.string (s.extract L[k] (L[k]+aG s L[k]))):=hcell k _ (by simp[dJ,hlt])
   clear hcell
   obtain⟨u,hu⟩:∃ u,u=s.extract L[k] (L[k]+aG s L[k]):=⟨_,rfl⟩
   rw[←hu] at hce
   have husz:u.size=aG s L[k]:=by rw[hu,da ps];omega
   have v0:bt u 0=bt s L[k]:=by rw[hu,j5 ps (by omega)];rfl
   have u0:0<u.size:=by omega
   have HPT:=af (fun W=>hJ u W u0)
   have HS:=af (ql s L k hlt)
   rw[←v0] at HS
   have hpc:=mX s (L.take k)
   have hpl:(L.take k).length≤L.length:=by simp;omega
   clear v0 hu husz hok p3 ps p4
   by_cases hc:aQ (bt u 0)=true
   ·rw[hc] at HPT
    rw[if_pos hc] at HS
    go_wp2_with (go_at_call 107;refine (HPT.out _).mono ?_;rintro e w' ⟨rfl,rfl⟩)
    go_round
    case rel=>exact⟨k+1,by omega,by go_num,by rw[HS.out];go_num⟩
    case measure=>simp[intOf];omega
   ·have hc':aQ (bt u 0)=false:=by simpa using hc
    rw[hc'] at HPT
    rw[if_neg hc] at HS
    go_wp2_with (go_at_call 107;refine (HPT.out _).mono ?_;rintro e w' ⟨rfl,rfl⟩)
    go_round
    case rel=>exact⟨k+1,by omega,by go_num,by rw[HS.out];go_num⟩
    case measure=>simp[intOf];omega
  ·go_wp2
   go_ret
   have e:L.take k=L:=List.take_of_length_le (by omega)
   rw[e]
   exact⟨rfl,ab (ag _ _) _⟩
theorem Co {w:World} {base:Nat} {e:TypeId} {a:Option Addr} {m c n i:Nat} {xs:List Value} (h:w.ownsRow base e 1 (.slice a m c) n xs) (hi:i≤n):w.ownsRow base e 1 (.slice a i c) i (xs.take i):=by
 obtain⟨h1,h2⟩:=h
 refine⟨by simp[h1];omega,?_⟩
 rcases h2 with ⟨hv,h0⟩|⟨g,cap,cur,hv,hb,hh,hn,hm,hc,ht⟩
 ·cases hv
  left;exact⟨by rw[show i=0 by omega],by omega⟩
 ·cases hv
  right
  refine⟨g,_,cur,rfl,hb,hh,by omega,hm,hc,?_⟩
  rw[←ht,List.take_take]
  congr 1
  omega
theorem tz {w:World} {base:Nat} {e:TypeId} {size:Nat} {a:Option Addr} {m c n:Nat} {xs:List Value} (h:w.ownsRow base e size (.slice a m c) n xs):n≤c:=by
 rcases h.2 with ⟨hv,h0⟩|⟨g,cap,cur,hv,hb,hh,hn,_⟩
 ·omega
 ·cases hv;exact hn
def oY (s:ByteArray) (L:List Nat) (k:Nat):Bool:=aQ (bt s (L.getD k 0))||cV s (L.take k) (L.getD k 0) (aG s (L.getD k 0))
def km (s:ByteArray) (L:List Nat) (n:Nat):Bool:=(List.range n).all fun k=>oY s L k
theorem jd (s:ByteArray) (L:List Nat) (n:Nat):km s L (n+1)=(km s L n&&oY s L n):=by
 unfold km;rw[List.range_succ,List.all_append];simp
theorem s9 {s:ByteArray} {L:List Nat} {n m:Nat} (h:km s L n=false) (hm:n≤m):km s L m=false:=by
 induction m with
 |zero=>rw[show n=0 by omega] at h;exact h
 |succ m ih=>
  by_cases e:n=m+1
  ·rw[←e];exact h
  ·rw[jd,ih (by omega)];rfl
def l4 (s:ByteArray) (L K:List Nat):Bool:=K.all fun p=>cV s L p (aT s p)
def kq (s:ByteArray) (L K:List Nat):Bool:=km s L L.length&&l4 s L K
theorem Ax (s:ByteArray) (L K:List Nat) (x:Int) (a a2:Option Addr) (m c m2 c2 B:Nat) (w:World) (hs:s.size≤400) (hL:∀ p∈L,b7 s p=true) (hK:∀ p∈K,p+aT s p≤s.size) (hlen:L.length≤400) (hlenK:K.length≤400)
  (h:w.ownsRow B 9 1 (.slice a m c) L.length (dJ s L)) (h2:w.ownsRow B 9 1 (.slice a2 m2 c2) K.length (gI s K)) :
  Calls Tryz.prog 79 #[.agg #[.int .i64 x,.slice a m c,.slice a2 m2 c2]] w fun e w'=>e=.returned (.bool (kq s L K))∧w.grownBy w' none:=by
 have e1:=ar h
 have e2:=ar h2
 subst e1 e2
 have HL:=af hL
 have HK:=af hK
 clear hL hK
 obtain⟨q,hq⟩:∃ q,q=kq s L K:=⟨_,rfl⟩
 rw[←hq]
 have HQ:=af hq
 clear hq
 have hw0:∃ w0,w0=w.alloc (.cells #[.int .i64 x,.slice a L.length c,.slice a2 K.length c2] 155):=⟨_,rfl⟩
 obtain⟨w0,hw0⟩:=hw0
 have h':w0.ownsRow B 9 1 (.slice a L.length c) L.length (dJ s L):=by rw[hw0];exact h.alloc _
 have h2':w0.ownsRow B 9 1 (.slice a2 K.length c2) K.length (gI s K):=by rw[hw0];exact h2.alloc _
 have d1:w0.cell? ⟨w.heap.size,1,none⟩=some (.slice a L.length c):=by rw[hw0];simp[go_sem]
 have d2:w0.cell? ⟨w.heap.size,2,none⟩=some (.slice a2 K.length c2):=by rw[hw0];simp[go_sem]
 have HG0:Hid (w.grownBy w0 none):=af (by rw[hw0];exact ab (ag _ _) _)
 have HW0:=af hw0
 have D1:=af d1
 have D2:=af d2
 clear hw0 h h2
 go_enter Tryz.func79,Tryz.ntmps79
 go_wp2_with fail
 rw[←HW0.out]
 clear HW0
 go_loopw [3] (fun t wr=>∃ (k:Nat),k≤L.length∧t=.int .i64 k∧wr.heap=w0.heap∧w.grownBy wr none∧km s L k=true) (fun t _=>L.length - (intOf t).toNat)
 case atStart=>exact⟨0,Nat.zero_le _,rfl,rfl,HG0.out,rfl⟩
 case round=>
  obtain⟨k,hk,rfl,hhp,hgr,hno⟩:=hrel
  have HN:=af hno
  have HHP:=af hhp
  have d1:=(iI hhp _).trans d1
  have d2:=(iI hhp _).trans d2
  clear hno hhp
  by_cases hlt:k<L.length
  ·obtain⟨g,rfl,_,hgb,hgl,hcell⟩:=aC h' (by omega)
   have hok:=HL.out L[k] (List.getElem_mem hlt)
   obtain⟨p3,ps,p4⟩:=sU hok
   have hce:w0.cell? ⟨g,k,none⟩=some (.string (s.extract L[k] (L[k]+aG s L[k]))):=hcell k _ (by simp[dJ,hlt])
   replace hce:=(iI HHP.out _).trans hce
   clear hcell
   have hpre:=Co h' (i:=k) (by omega)
   rw[show (dJ s L).take k=dJ s (L.take k) by simp[dJ,List.map_take]] at hpre
   have hlk:(L.take k).length=k:=by simp;omega
   have HBD:Hid (∀ W:World,W.heap=w0.heap→Calls Tryz.prog 108 #[.slice (some ⟨g,0,none⟩) k c,.string (s.extract L[k] (L[k]+aG s L[k]))] W fun e w'=>e=.returned (.bool (cV s (L.take k) L[k] (aG s L[k])))∧w'=W):=af (fun W hW=>
    (sk s (L.take k) L[k] (aG s L[k]) (some ⟨g,0,none⟩) k c B W ps hs (fun p hp=>HL.out p (List.mem_of_mem_take hp)) (by omega) (by rw[hlk];exact du hpre hW)).mono fun _ _ ⟨h1,h2⟩=>⟨h1,h2.symm⟩)
   have HT:=af (jd s L k)
   have hgd:L.getD k 0=L[k]:=by simp[List.getD,hlt]
   rw[HN.out,Bool.true_and,oY,hgd] at HT
   obtain⟨u,hu⟩:∃ u,u=s.extract L[k] (L[k]+aG s L[k]):=⟨_,rfl⟩
   rw[←hu] at hce HBD
   have v0:bt u 0=bt s L[k]:=by rw[hu,j5 ps (by omega)];rfl
   have u0:0<u.size:=by rw[hu,da ps];omega
   have HPT:=af (fun W=>hJ u W u0)
   rw[v0] at HPT
   clear v0 hu hok p3 ps p4 hpre hgd u0 hlk
   obtain⟨bb,hbb⟩:∃ bb,bb=cV s (L.take k) L[k] (aG s L[k]):=⟨_,rfl⟩
   obtain⟨cc,hcc⟩:∃ cc,cc=aQ (bt s L[k]):=⟨_,rfl⟩
   rw[←hbb] at HBD HT
   rw[←hcc] at HPT HT
   clear hbb hcc
   go_wp2_with (go_at_call 107;refine (HPT.out _).mono ?_;rintro e w' ⟨rfl,rfl⟩)
   have hcap:=tz h'
   have hkc:k≤c:=by omega
   have hki:(k:Int)≤c:=by omega
   go_quiet ((go_at_call 108;exact Calls.quiet_of_same (HBD.out _ HHP.out)))
   cases cc with
   |true=>
    go_wp2
    go_roundw
    case rel=>exact⟨k+1,by omega,by go_num,HHP.out,al hgr _,by rw[HT.out];rfl⟩
    case measure=>simp[intOf];omega
   |false=>
    cases bb with
    |true=>
     go_wp2
     go_roundw
     case rel=>exact⟨k+1,by omega,by go_num,HHP.out,al hgr _,by rw[HT.out];rfl⟩
     case measure=>simp[intOf];omega
    |false=>
     have HU:Hid (q=false):=af (by rw[HQ.out,kq,s9 (n:=k+1) (by rw[HT.out];rfl) (by omega)];rfl)
     go_wp2
     go_ret
     exact⟨cY HU.out.symm,al hgr _⟩
  ·have HN':Hid (q=l4 s L K):=af (by
    rw[HQ.out,kq]
    have:=HN.out
    rw[show k=L.length by omega] at this
    rw[this];rfl)
   clear HN
   go_wp2_with fail
   go_loopw [6] (fun t wr=>∃ (k:Nat),k≤K.length∧t=.int .i64 k∧wr.heap=w0.heap∧w.grownBy wr none∧l4 s L (K.take k)=true) (fun t _=>K.length - (intOf t).toNat)
   case atStart=>exact⟨0,Nat.zero_le _,rfl,HHP.out,hgr,rfl⟩
   case round=>
    clear HHP hgr d1 d2
    obtain⟨k',hk',rfl,hhp,hgr,hno⟩:=hrel
    have HN:=af hno
    have HHP:=af hhp
    have d1:=(iI hhp _).trans D1.out
    have d2:=(iI hhp _).trans D2.out
    clear hno hhp
    by_cases hlt':k'<K.length
    ·obtain⟨g,rfl,_,hgb,hgl,hcell⟩:=aC h2' (by omega)
     have ps:=HK.out K[k'] (List.getElem_mem hlt')
     have hce:w0.cell? ⟨g,k',none⟩=some (.string (s.extract K[k'] (K[k']+aT s K[k']))):=hcell k' _ (by simp[gI,hlt'])
     replace hce:=(iI HHP.out _).trans hce
     clear hcell
     have HBD:Hid (∀ W:World,W.heap=w0.heap→Calls Tryz.prog 108 #[.slice a L.length c,.string (s.extract K[k'] (K[k']+aT s K[k']))] W fun e w'=>e=.returned (.bool (cV s L K[k'] (aT s K[k'])))∧w'=W):=af (fun W hW=>
      (sk s L K[k'] (aT s K[k']) a L.length c B W ps hs HL.out hlen (du h' hW)).mono fun _ _ ⟨h1,h2⟩=>⟨h1,h2.symm⟩)
     have HT:Hid (l4 s L (K.take (k'+1))=cV s L K[k'] (aT s K[k'])):=af (by
      have:=HN.out
      unfold l4 at this ⊢
      rw[List.take_succ_eq_append_getElem hlt',List.all_append,this];simp)
     obtain⟨u,hu⟩:∃ u,u=s.extract K[k'] (K[k']+aT s K[k']):=⟨_,rfl⟩
     rw[←hu] at hce HBD
     obtain⟨bb,hbb⟩:∃ bb,bb=cV s L K[k'] (aT s K[k']):=⟨_,rfl⟩
     rw[←hbb] at HBD HT
     clear hu hbb ps
     go_wp2_with fail
     go_quiet ((go_at_call 108;exact Calls.quiet_of_same (HBD.out _ HHP.out)))
     cases bb with
     |true=>
      go_wp2
      go_roundw
      case rel=>exact⟨k'+1,by omega,by go_num,HHP.out,al hgr _,HT.out⟩
      case measure=>simp[intOf];omega
     |false=>
      have HU:Hid (q=false):=af (by
       rw[HN'.out]
       have:=HT.out
       unfold l4 at this ⊢
       rw[←List.take_append_drop (k'+1) K,List.all_append,this];rfl)
      go_wp2
      go_ret
      exact⟨cY HU.out.symm,al hgr _⟩
    ·have HU:Hid (q=true):=af (by
      rw[HN'.out]
      have:=HN.out
      rwa [List.take_of_length_le (by omega)] at this)
     go_wp2
     go_ret
     exact⟨cY HU.out.symm,hgr⟩
theorem zd {c:Int} (h:ew c=true):dw c=2∧dC c=c - 119∧119≤c∧c≤122:=by
 have h1:119≤c∧c≤122:=by simpa [ew] using h
 have h2:bM c=false:=by simp[bM];omega
 exact⟨by simp[dw,h,h2],by simp[dC,h,h2],h1.1,h1.2⟩
theorem sr {c:Int} (h:ew c=false):¬dw c=2:=by
 unfold dw
 split
 ·omega
 ·simp[h]
def uh (s:ByteArray) (L:List Nat) (bs:Nat→Bool):Prop:=∀ n:Nat,n<4→bs n=fC s L (119+n)
theorem yH (bs:Nat→Bool) (c:Int) (n:Nat) (hn:n<4):ja bs (dw c) (dC c) n=(bs n||(c==119+(n:Int))):=by
 unfold ja
 cases hl:ew c with
 |true=>
  obtain⟨e1,e2,h1,h2⟩:=zd hl
  rw[e1,e2]
  simp only[decide_true,Bool.true_and]
  congr 1
  rw[Bool.eq_iff_iff]
  simp only[decide_eq_true_eq,beq_iff_eq]
  omega
 |false=>
  have:=sr hl
  have h1:¬(119≤c∧c≤122):=by simpa [ew] using hl
  have h2:(c==119+(n:Int))=false:=by simp;omega
  simp[this,h2]
theorem iN {s:ByteArray} {L:List Nat} {bs:Nat→Bool} (hf:uh s L bs) (c:Int):e8 bs (dw c) (dC c)=!(cn s L c):=by
 unfold e8 cn
 cases hl:ew c with
 |true=>
  obtain⟨e1,e2,h1,h2⟩:=zd hl
  rw[e1,e2,hf (c - 119).toNat (by omega),show (119:Int)+((c - 119).toNat:Int)=c by omega]
  simp
 |false=>
  simp[sr hl]
theorem kL {s:ByteArray} {p:Nat} (_h:b7 s p=true):(dg s p).k=1↔aQ (bt s p)=true:=by
 unfold dg
 by_cases h33:bt s p=33
 ·simp only[h33,if_true,lU]
  constructor
  ·intro h;omega
  ·intro h;exact absurd h (by decide)
 ·by_cases hc:aQ (bt s p)=true
  ·simp[h33,hc,lU]
  ·simp[h33,hc,rf]
theorem t9 {s:ByteArray} {L:List Nat} (h:∀ p∈L,b7 s p=true):bL s L=eu s L:=by
 unfold bL eu
 congr 1
 apply List.filter_congr
 intro p hp
 have:=kL (h p hp)
 rw[Bool.eq_iff_iff]
 simpa using this
theorem CV {s:ByteArray} {L:List Nat} {bs:Nat→Bool} {p:Nat} (hf:uh s L bs) (_h:b7 s p=true) (hc:aQ (bt s p)=true):uh s (L++[p]) (tT s p bs):=by
 intro n hn
 have h33:¬bt s p=33:=by intro e;rw[e] at hc;exact absurd hc (by decide)
 have e:dg s p=lU 1 s p:=by simp[dg,h33,hc]
 unfold tT
 rw[e]
 simp only[lU]
 rw[yH _ _ n hn,yH _ _ n hn,hf n hn]
 unfold fC
 rw[List.any_append]
 simp[hc,Bool.or_assoc]
theorem Ad {s:ByteArray} {L:List Nat} {bs:Nat→Bool} {p:Nat} (hf:uh s L bs) (hc:aQ (bt s p)=false):uh s (L++[p]) bs:=by
 intro n hn
 rw[hf n hn]
 unfold fC
 rw[List.any_append]
 simp[hc]
theorem sL {s:ByteArray} {L:List Nat} {c:Int} (h:aQ c=true):cn s L c=true:=by
 have h1:97≤c∧c≤102:=by simpa [aQ] using h
 have:ew c=false:=by simp[ew];omega
 simp[cn,this]
theorem EL {s:ByteArray} {L:List Nat} {c:Int} (h:gF c=true):cn s L c=true:=by
 have h1:(c=60∨c=61)∨c=35:=by simpa [gF] using h
 have:ew c=false:=by simp[ew];omega
 simp[cn,this]
theorem Eq {s:ByteArray} {L:List Nat} {c:Int} (h:e9 c=true):cn s L c=true:=by
 have h1:c=94∨c=126:=by simpa [e9] using h
 have:ew c=false:=by simp[ew];omega
 simp[cn,this]
theorem Gd (s:ByteArray) (L:List Nat) (p:Nat):cV s L p 3=(cn s L (bt s p)&&cn s L (bt s (p+1))&&cn s L (bt s (p+2))):=by
 rw[ci,ci,ci];simp[cV]
theorem Ge (s:ByteArray) (L:List Nat) (p:Nat):cV s L p 4=(cn s L (bt s p)&&cn s L (bt s (p+1))&&cn s L (bt s (p+2))&&cn s L (bt s (p+3))):=by
 rw[ci,Gd]
theorem Ew {s:ByteArray} {i:Nat} (h:bx s i=3):aQ (bt s i)=true:=by
 unfold bx at h;split at h
 ·assumption
 ·omega
theorem Fa {s:ByteArray} {i:Nat} (h:bT s i=3):gF (bt s (i+1))=true:=by
 unfold bT at h;split at h
 ·split at h
  ·assumption
  ·omega
 ·omega
theorem EW {s:ByteArray} {L:List Nat} {bs:Nat→Bool} {p:Nat} (hf:uh s L bs) (h:b7 s p=true) (hc:aQ (bt s p)=false):ie s p bs=!(cV s L p (aG s p)):=by
 unfold ie
 by_cases h33:bt s p=33
 ·have hp:bx s (p+1)=3:=by simpa [b7,h33] using h
  have e:dg s p=lU 2 s (p+1):=by simp[dg,h33]
  have el:aG s p=4:=by simp[aG,h33,hp]
  have h0:cn s L 33=true:=by simp[cn,show ew 33=false by decide]
  rw[e,el,Ge]
  simp only[lU]
  rw[iN hf,iN hf,h33,h0,sL (Ew hp)]
  simp[show p+1+1=p+2 by omega,show p+1+2=p+3 by omega,Bool.not_and]
 ·have hp:bT s p=3:=by simpa [b7,h33,hc] using h
  have e:dg s p=rf s p:=by simp[dg,h33,hc]
  have el:aG s p=3:=by simp[aG,h33,hc,hp]
  rw[e,el,Gd]
  simp only[rf]
  rw[iN hf,iN hf,EL (Fa hp)]
  simp[Bool.not_and]
theorem qa {s:ByteArray} {L:List Nat} {p n:Nat}:cV s L p (n+(c9 s (p+n) - (p+n)))=(cV s L p n&&cn s L (bt s (p+n))):=by
 unfold c9
 split
 ·rename_i ht
  rw[show n+(p+n+2 - (p+n))=n+1+1 by omega,ci,ci,show p+(n+1)=p+n+1 by omega,Eq ht,Bool.and_true]
 ·rw[show n+(p+n+1 - (p+n))=n+1 by omega,ci]
theorem zb {s:ByteArray} {L:List Nat} {bs:Nat→Bool} {p:Nat} (hf:uh s L bs) (h:cP s p=true):js s p bs=!(cV s L p (aT s p)):=by
 unfold js
 have hsm:∀ c:Int,ew c=false→cn s L c=true:=fun c hc=>by simp[cn,hc]
 unfold cP at h
 by_cases h43:bt s p=43
 ·simp only[h43,if_true] at h
  have hh:=h
  simp only[fI,Bool.and_eq_true] at h
  obtain⟨⟨h0,h1⟩,h2⟩:=h
  have hj:=es s (p+2)
  have hj2:=es s (c9 s (p+2))
  have e:d9 s p=xD s (p+1):=by simp[d9,h43]
  have e1:c9 s (p+1+1)=c9 s (p+2):=rfl
  have el:aT s p=(2+(c9 s (p+2) - (p+2)))+(c9 s (c9 s (p+2)) - c9 s (p+2)):=by
   simp only[aT,h43,if_true,cO,h0,h1,h2,e1];omega
  have hb:cV s L p (aT s p)=(cn s L (bt s (p+2))&&cn s L (bt s (c9 s (p+2)))):=by
   have x1:=qa (s:=s) (L:=L) (p:=p) (n:=2)
   have x2:=qa (s:=s) (L:=L) (p:=p) (n:=2+(c9 s (p+2) - (p+2)))
   rw[show p+(2+(c9 s (p+2) - (p+2)))=c9 s (p+2) by omega] at x2
   rw[el,x2,x1,ci,ci,Nat.add_zero,h43,hsm 43 (by decide),sL h0]
   simp[cV]
  rw[hb,e]
  simp only[xD]
  rw[iN hf,iN hf]
  simp only[Bool.not_and,e1]
 ·by_cases h45:bt s p=45
  ·simp only[h45,if_true,show ¬(45:Int)=43 by decide,if_false] at h
   simp only[gk,Bool.and_eq_true] at h
   obtain⟨h0,h1⟩:=h
   have hj:=es s (p+2)
   have e:d9 s p=vH s (p+1):=by simp[d9,h45]
   have e1:c9 s (p+1+1)=c9 s (p+2):=rfl
   have el:aT s p=2+(c9 s (p+2) - (p+2)):=by
    simp only[aT,h45,if_true,show ¬(45:Int)=43 by decide,if_false,c7,h0,h1,e1];omega
   have hb:cV s L p (aT s p)=cn s L (bt s (p+2)):=by
    rw[el,qa,ci,ci,Nat.add_zero,h45,hsm 45 (by decide),sL h0]
    simp[cV]
   rw[hb,e]
   simp only[vH]
   rw[iN hf]
   simp[e8]
  ·have h46:bt s p=46:=by simpa [h43,h45] using h
   have e:d9 s p=⟨3,0,0,0,0,0,0,0⟩:=by simp[d9,h43,h45]
   have el:aT s p=1:=by simp[aT,h46]
   rw[el,e,ci,Nat.add_zero,h46,hsm 46 (by decide)]
   simp[e8,cV]
theorem pg {s:ByteArray} {L:List Nat} (hL:∀ p∈L,b7 s p=true):∀ n,n≤L.length→(∃ bs,b8 s (L.take n) (fun _=>false)=some bs∧uh s (L.take n) bs∧km s L n=true)∨(b8 s (L.take n) (fun _=>false)=none∧km s L n=false)
 |0,_=>.inl ⟨_,rfl,fun n _=>rfl,rfl⟩
 |n+1,h=>by
  have hlt:n<L.length:=by omega
  have hok:=hL L[n] (List.getElem_mem hlt)
  have hgd:L.getD n 0=L[n]:=by simp[List.getD,hlt]
  have ht:L.take (n+1)=L.take n++[L[n]]:=List.take_succ_eq_append_getElem hlt
  rcases pg hL n (by omega) with ⟨bs,h1,h2,h3⟩|⟨h1,h2⟩
  ·rw[jr hlt h1,jd,h3,Bool.true_and,oY,hgd]
   by_cases hc:aQ (bt s L[n])=true
   ·rw[if_pos ((kL hok).mpr hc)]
    exact .inl ⟨_,rfl,by rw[ht];exact CV h2 hok hc,by simp[hc]⟩
   ·have hc':aQ (bt s L[n])=false:=by simpa using hc
    rw[if_neg (fun e=>hc ((kL hok).mp e)),EW h2 hok hc',hc',Bool.false_or]
    cases hb:cV s (L.take n) L[n] (aG s L[n]) with
    |true=>exact .inl ⟨bs,rfl,by rw[ht];exact Ad h2 hc',rfl⟩
    |false=>exact .inr ⟨rfl,rfl⟩
  ·right
   constructor
   ·rw[ht,eR,h1];rfl
   ·rw[jd,h2];rfl
theorem An {s:ByteArray} {L K:List Nat} (hL:∀ p∈L,b7 s p=true) (hK:∀ p∈K,cP s p=true):mt s L K=!(kq s L K):=by
 unfold mt kq
 rcases pg hL L.length (Nat.le_refl _) with ⟨bs,h1,h2,h3⟩|⟨h1,h2⟩
 ·rw[List.take_of_length_le (Nat.le_refl _)] at h1 h2
  rw[h1,h3]
  simp only[Bool.true_and]
  unfold iw l4
  rw[Bool.eq_iff_iff]
  simp only[List.any_eq_true,Bool.not_eq_true',List.all_eq_false]
  constructor
  ·rintro⟨p,hp,hx⟩
   exact⟨p,hp,by rw[zb h2 (hK p hp)] at hx;simpa using hx⟩
  ·rintro⟨p,hp,hx⟩
   exact⟨p,hp,by rw[zb h2 (hK p hp)];simpa using hx⟩
 ·rw[List.take_of_length_le (Nat.le_refl _)] at h1
  rw[h1,h2];rfl
theorem lC {s:ByteArray} {i:Nat} {L:List Nat} {j:Nat} {ok:Bool} (h:jx s i L j ok):ok=true→∀ p∈L,b7 s p=true:=by
 refine jx.ind (M:=fun i L j ok=>ok=true→∀ p∈L,b7 s p=true) ?_ ?_ ?_ ?_ ?_ h
 ·intro _ _
  intro h;cases h
 ·intro _ _ _
  intro h;cases h
 ·intro _ _ h _
  intro _ p hp;rw[List.mem_singleton.mp hp];exact h
 ·intro _ _ _ _ _
  intro h;cases h
 ·intro _ _ _ _ _ h _ _ ih
  intro e p hp
  rcases List.mem_cons.mp hp with rfl|hp
  ·exact h
  ·exact ih e p hp
theorem yA {s:ByteArray} {i:Nat} {L:List Nat} {j:Nat} {ok:Bool} (h:jV s i L j ok):ok=true→∀ p∈L,cP s p=true∧p+aT s p≤s.size:=by
 refine jV.ind (M:=fun i L j ok=>ok=true→∀ p∈L,cP s p=true∧p+aT s p≤s.size) ?_ ?_ ?_ ?_ ?_ h
 ·intro _ _
  intro h;cases h
 ·intro _ _ _
  intro h;cases h
 ·intro _ hi h _
  intro _ p hp;rw[List.mem_singleton.mp hp];exact⟨h,nu hi⟩
 ·intro _ _ _ _ _
  intro h;cases h
 ·intro _ _ _ _ hi h _ _ ih
  intro e p hp
  rcases List.mem_cons.mp hp with rfl|hp
  ·exact⟨h,nu hi⟩
  ·exact ih e p hp
theorem Es {s:ByteArray} {i:Nat} {L:List Nat} {j:Nat} {ok:Bool} (h:jx s i L j ok):ok=true→i+L.length≤j:=by
 refine jx.ind (M:=fun i L j ok=>ok=true→i+L.length≤j) ?_ ?_ ?_ ?_ ?_ h
 ·intro _ _
  intro h;cases h
 ·intro _ _ _
  intro h;cases h
 ·intro _ _ _ _
  intro _;simp
 ·intro _ _ _ _ _
  intro h;cases h
 ·intro _ _ _ _ _ _ _ _ ih
  intro e;have:=ih e;simp;omega
theorem Ey {s:ByteArray} {i:Nat} {L:List Nat} {j:Nat} {ok:Bool} (h:jV s i L j ok):ok=true→i+L.length≤j:=by
 refine jV.ind (M:=fun i L j ok=>ok=true→i+L.length≤j) ?_ ?_ ?_ ?_ ?_ h
 ·intro _ _
  intro h;cases h
 ·intro _ _ _
  intro h;cases h
 ·intro _ _ _ _
  intro _;simp
 ·intro _ _ _ _ _
  intro h;cases h
 ·intro _ _ _ _ _ _ _ _ ih
  intro e;have:=ih e;simp;omega
end Go.Proofs.YthlhbjnkohinmaaGreat
