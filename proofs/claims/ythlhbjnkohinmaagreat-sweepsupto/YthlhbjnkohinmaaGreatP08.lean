import Derived.Test.YthlhbjnkohinmaaGreatP07
import Derived.Test.YthlhbjnkohinmaaGreatP05
namespace Go.Proofs.YthlhbjnkohinmaaGreat
set_option maxRecDepth 100000
set_option maxHeartbeats 8000000
open Go.RowKit
theorem CZ {w:World}{base:Nat}{e:TypeId}{a:Option Addr}{m c n i:Nat}{xs:List Value}(h:w.ownsRow base e 1 (.slice a m c) n xs)(hi:i≤n):w.ownsRow base e 1 (.slice a i c) i (xs.take i):=by
 obtain⟨h1,h2⟩:=h
 refine⟨by simp[h1];omega,?_⟩
 rcases h2 with ⟨hv,h0⟩|⟨g,cap,cur,hv,hb,hh,hn,hm,hc,ht⟩
 ·cases hv
  left;exact⟨by rw[show i=0 by omega],by omega⟩
 ·cases hv
  right
  refine⟨g,_,cur,rfl,hb,hh,by omega,hm,hc,?_⟩
  rw[←ht,List.take_take]
  congr 1
  omega
theorem tn {w:World}{base:Nat}{e:TypeId}{size:Nat}{a:Option Addr}{m c n:Nat}{xs:List Value}(h:w.ownsRow base e size (.slice a m c) n xs):n≤c:=by
 rcases h.2 with ⟨hv,h0⟩|⟨g,cap,cur,hv,hb,hh,hn,_⟩
 ·omega
 ·cases hv;exact hn
def oV (s:ByteArray)(L:List Nat)(k:Nat):Bool:=aR (bt s (L.getD k 0))||cW s (L.take k) (L.getD k 0) (aH s (L.getD k 0))
def ko (s:ByteArray)(L:List Nat)(n:Nat):Bool:=(List.range n).all fun k=>oV s L k
theorem jo (s:ByteArray)(L:List Nat)(n:Nat):ko s L (n+1)=(ko s L n&&oV s L n):=by
 unfold ko;rw[List.range_succ,List.all_append];simp
theorem sR {s:ByteArray}{L:List Nat}{n m:Nat}(h:ko s L n=false)(hm:n≤m):ko s L m=false:=by
 induction m with
 |zero=>rw[show n=0 by omega] at h;exact h
 |succ m ih=>
  by_cases e:n=m+1
  ·rw[←e];exact h
  ·rw[jo,ih (by omega)];rfl
def mn (s:ByteArray)(L K:List Nat):Bool:=K.all fun p=>cW s L p (aS s p)
def kl (s:ByteArray)(L K:List Nat):Bool:=ko s L L.length&&mn s L K
theorem Bb (s:ByteArray)(L K:List Nat)(x:Int)(a a2:Option Addr)(m c m2 c2 B:Nat)(w:World)(hs:s.size≤400)(hL:∀ p∈L,b7 s p=true)(hK:∀ p∈K,p+aS s p≤s.size)(hlen:L.length≤400)(hlenK:K.length≤400)
  (h:w.ownsRow B 9 1 (.slice a m c) L.length (dJ s L)) (h2:w.ownsRow B 9 1 (.slice a2 m2 c2) K.length (gH s K)) :
  Calls Tryz.prog 79 #[.agg #[.int .i64 x,.slice a m c,.slice a2 m2 c2]] w fun e w'=>e=.returned (.bool (kl s L K))∧w.grownBy w' none:=by
 have e1:=au h
 have e2:=au h2
 subst e1 e2
 have HL:=af hL
 have HK:=af hK
 clear hL hK
 obtain⟨q,hq⟩:∃ q,q=kl s L K:=⟨_,rfl⟩
 rw[←hq]
 have HQ:=af hq
 clear hq
 have hw0:∃ w0,w0=w.alloc (.cells #[.int .i64 x,.slice a L.length c,.slice a2 K.length c2] 155):=⟨_,rfl⟩
 obtain⟨w0,hw0⟩:=hw0
 have h':w0.ownsRow B 9 1 (.slice a L.length c) L.length (dJ s L):=by rw[hw0];exact h.alloc _
 have h2':w0.ownsRow B 9 1 (.slice a2 K.length c2) K.length (gH s K):=by rw[hw0];exact h2.alloc _
 have d1:w0.cell? ⟨w.heap.size,1,none⟩=some (.slice a L.length c):=by rw[hw0];simp[go_sem]
 have d2:w0.cell? ⟨w.heap.size,2,none⟩=some (.slice a2 K.length c2):=by rw[hw0];simp[go_sem]
 have HG0:Hid (w.grownBy w0 none):=af (by rw[hw0];exact ab (ag _ _) _)
 have HW0:=af hw0
 have D1:=af d1
 have D2:=af d2
 clear hw0 h h2
 go_enter Tryz.func79,Tryz.ntmps79
 go_wp2_with fail
 rw[←HW0.out]
 clear HW0
 go_loopw [3] (fun t wr=>∃ (k:Nat),k≤L.length∧t=.int .i64 k∧wr.heap=w0.heap∧w.grownBy wr none∧ko s L k=true) (fun t _=>L.length - (intOf t).toNat)
 case atStart=>exact⟨0,Nat.zero_le _,rfl,rfl,HG0.out,rfl⟩
 case round=>
  obtain⟨k,hk,rfl,hhp,hgr,hno⟩:=hrel
  have HN:=af hno
  have HHP:=af hhp
  have d1:=(iD hhp _).trans d1
  have d2:=(iD hhp _).trans d2
  clear hno hhp
  by_cases hlt:k<L.length
  ·obtain⟨g,rfl,_,hgb,hgl,hcell⟩:=aC h' (by omega)
   have hok:=HL.out L[k] (List.getElem_mem hlt)
   obtain⟨p3,ps,p4⟩:=tB hok
   have hce:w0.cell? ⟨g,k,none⟩=some (.string (s.extract L[k] (L[k]+aH s L[k]))):=hcell k _ (by simp[dJ,hlt])
   replace hce:=(iD HHP.out _).trans hce
   clear hcell
   have hpre:=CZ h' (i:=k) (by omega)
   rw[show (dJ s L).take k=dJ s (L.take k) by simp[dJ,List.map_take]] at hpre
   have hlk:(L.take k).length=k:=by simp;omega
   have HBD:Hid (∀ W:World,W.heap=w0.heap→Calls Tryz.prog 108 #[.slice (some ⟨g,0,none⟩) k c,.string (s.extract L[k] (L[k]+aH s L[k]))] W fun e w'=>e=.returned (.bool (cW s (L.take k) L[k] (aH s L[k])))∧w'=W):=af (fun W hW=>
    (sw s (L.take k) L[k] (aH s L[k]) (some ⟨g,0,none⟩) k c B W ps hs (fun p hp=>HL.out p (List.mem_of_mem_take hp)) (by omega) (by rw[hlk];exact dn hpre hW)).mono fun _ _ ⟨h1,h2⟩=>⟨h1,h2.symm⟩)
   have HT:=af (jo s L k)
   have hgd:L.getD k 0=L[k]:=by simp[List.getD,hlt]
   rw[HN.out,Bool.true_and,oV,hgd] at HT
   obtain⟨u,hu⟩:∃ u,u=s.extract L[k] (L[k]+aH s L[k]):=⟨_,rfl⟩
   rw[←hu] at hce HBD
   have v0:bt u 0=bt s L[k]:=by rw[hu,ka ps (by omega)];rfl
   have u0:0<u.size:=by rw[hu,da ps];omega
   have HPT:=af (fun W=>id u W u0)
   rw[v0] at HPT
   clear v0 hu hok p3 ps p4 hpre hgd u0 hlk
   obtain⟨bb,hbb⟩:∃ bb,bb=cW s (L.take k) L[k] (aH s L[k]):=⟨_,rfl⟩
   obtain⟨cc,hcc⟩:∃ cc,cc=aR (bt s L[k]):=⟨_,rfl⟩
   rw[←hbb] at HBD HT
   rw[←hcc] at HPT HT
   clear hbb hcc
   go_wp2_with (go_at_call 107;refine (HPT.out _).mono ?_;rintro e w' ⟨rfl,rfl⟩)
   have hcap:=tn h'
   have hkc:k≤c:=by omega
   have hki:(k:Int)≤c:=by omega
   go_quiet ((go_at_call 108;exact Calls.quiet_of_same (HBD.out _ HHP.out)))
   cases cc with
   |true=>
    go_wp2
    go_roundw
    case rel=>exact⟨k+1,by omega,by go_num,HHP.out,al hgr _,by rw[HT.out];rfl⟩
    case measure=>simp[intOf];omega
   |false=>
    cases bb with
    |true=>
     go_wp2
     go_roundw
     case rel=>exact⟨k+1,by omega,by go_num,HHP.out,al hgr _,by rw[HT.out];rfl⟩
     case measure=>simp[intOf];omega
    |false=>
     have HU:Hid (q=false):=af (by rw[HQ.out,kl,sR (n:=k+1) (by rw[HT.out];rfl) (by omega)];rfl)
     go_wp2
     go_ret
     exact⟨cZ HU.out.symm,al hgr _⟩
  ·have HN':Hid (q=mn s L K):=af (by
    rw[HQ.out,kl]
    have:=HN.out
    rw[show k=L.length by omega] at this
    rw[this];rfl)
   clear HN
   go_wp2_with fail
   go_loopw [6] (fun t wr=>∃ (k:Nat),k≤K.length∧t=.int .i64 k∧wr.heap=w0.heap∧w.grownBy wr none∧mn s L (K.take k)=true) (fun t _=>K.length - (intOf t).toNat)
   case atStart=>exact⟨0,Nat.zero_le _,rfl,HHP.out,hgr,rfl⟩
   case round=>
    clear HHP hgr d1 d2
    obtain⟨k',hk',rfl,hhp,hgr,hno⟩:=hrel
    have HN:=af hno
    have HHP:=af hhp
    have d1:=(iD hhp _).trans D1.out
    have d2:=(iD hhp _).trans D2.out
    clear hno hhp
    by_cases hlt':k'<K.length
    ·obtain⟨g,rfl,_,hgb,hgl,hcell⟩:=aC h2' (by omega)
     have ps:=HK.out K[k'] (List.getElem_mem hlt')
     have hce:w0.cell? ⟨g,k',none⟩=some (.string (s.extract K[k'] (K[k']+aS s K[k']))):=hcell k' _ (by simp[gH,hlt'])
     replace hce:=(iD HHP.out _).trans hce
     clear hcell
     have HBD:Hid (∀ W:World,W.heap=w0.heap→Calls Tryz.prog 108 #[.slice a L.length c,.string (s.extract K[k'] (K[k']+aS s K[k']))] W fun e w'=>e=.returned (.bool (cW s L K[k'] (aS s K[k'])))∧w'=W):=af (fun W hW=>
      (sw s L K[k'] (aS s K[k']) a L.length c B W ps hs HL.out hlen (dn h' hW)).mono fun _ _ ⟨h1,h2⟩=>⟨h1,h2.symm⟩)
     have HT:Hid (mn s L (K.take (k'+1))=cW s L K[k'] (aS s K[k'])):=af (by
      have:=HN.out
      unfold mn at this ⊢
      rw[List.take_succ_eq_append_getElem hlt',List.all_append,this];simp)
     obtain⟨u,hu⟩:∃ u,u=s.extract K[k'] (K[k']+aS s K[k']):=⟨_,rfl⟩
     rw[←hu] at hce HBD
     obtain⟨bb,hbb⟩:∃ bb,bb=cW s L K[k'] (aS s K[k']):=⟨_,rfl⟩
     rw[←hbb] at HBD HT
     clear hu hbb ps
     go_wp2_with fail
     go_quiet ((go_at_call 108;exact Calls.quiet_of_same (HBD.out _ HHP.out)))
     cases bb with
     |true=>
      go_wp2
      go_roundw
      case rel=>exact⟨k'+1,by omega,by go_num,HHP.out,al hgr _,HT.out⟩
      case measure=>simp[intOf];omega
     |false=>
      have HU:Hid (q=false):=af (by
       rw[HN'.out]
       have:=HT.out
       unfold mn at this ⊢
       rw[←List.take_append_drop (k'+1) K,List.all_append,this];rfl)
      go_wp2
      go_ret
      exact⟨cZ HU.out.symm,al hgr _⟩
    ·have HU:Hid (q=true):=af (by
      rw[HN'.out]
      have:=HN.out
      rwa [List.take_of_length_le (by omega)] at this)
     go_wp2
     go_ret
     exact⟨cZ HU.out.symm,hgr⟩
theorem yq {c:Int}(h:ex c=true):dw c=2∧dC c=c - 119∧119≤c∧c≤122:=by
 have h1:119≤c∧c≤122:=by simpa [ex] using h
 have h2:bM c=false:=by simp[bM];omega
 exact⟨by simp[dw,h,h2],by simp[dC,h,h2],h1.1,h1.2⟩
theorem rN {c:Int}(h:ex c=false):¬dw c=2:=by
 unfold dw
 split
 ·omega
 ·simp[h]
def vC (s:ByteArray)(L:List Nat)(bs:Nat→Bool):Prop:=∀ n:Nat,n<4→bs n=fC s L (119+n)
theorem yS (bs:Nat→Bool)(c:Int)(n:Nat)(hn:n<4):je bs (dw c) (dC c) n=(bs n||(c==119+(n:Int))):=by
 unfold je
 cases hl:ex c with
 |true=>
  obtain⟨e1,e2,h1,h2⟩:=yq hl
  rw[e1,e2]
  simp only[decide_true,Bool.true_and]
  congr 1
  rw[Bool.eq_iff_iff]
  simp only[decide_eq_true_eq,beq_iff_eq]
  omega
 |false=>
  have:=rN hl
  have h1:¬(119≤c∧c≤122):=by simpa [ex] using hl
  have h2:(c==119+(n:Int))=false:=by simp;omega
  simp[this,h2]
theorem iO {s:ByteArray}{L:List Nat}{bs:Nat→Bool}(hf:vC s L bs)(c:Int):e9 bs (dw c) (dC c)=!(cj s L c):=by
 unfold e9 cj
 cases hl:ex c with
 |true=>
  obtain⟨e1,e2,h1,h2⟩:=yq hl
  rw[e1,e2,hf (c - 119).toNat (by omega),show (119:Int)+((c - 119).toNat:Int)=c by omega]
  simp
 |false=>
  simp[rN hl]
theorem ld {s:ByteArray}{p:Nat}(_h:b7 s p=true):(dg s p).k=1↔aR (bt s p)=true:=by
 unfold dg
 by_cases h33:bt s p=33
 ·simp only[h33,if_true,l8]
  constructor
  ·intro h;omega
  ·intro h;exact absurd h (by decide)
 ·by_cases hc:aR (bt s p)=true
  ·simp[h33,hc,l8]
  ·simp[h33,hc,qX]
theorem vn {s:ByteArray}{L:List Nat}(h:∀ p∈L,b7 s p=true):bL s L=eo s L:=by
 unfold bL eo
 congr 1
 apply List.filter_congr
 intro p hp
 have:=ld (h p hp)
 rw[Bool.eq_iff_iff]
 simpa using this
theorem DD {s:ByteArray}{L:List Nat}{bs:Nat→Bool}{p:Nat}(hf:vC s L bs)(_h:b7 s p=true)(hc:aR (bt s p)=true):vC s (L++[p]) (uw s p bs):=by
 intro n hn
 have h33:¬bt s p=33:=by intro e;rw[e] at hc;exact absurd hc (by decide)
 have e:dg s p=l8 1 s p:=by simp[dg,h33,hc]
 unfold uw
 rw[e]
 simp only[l8]
 rw[yS _ _ n hn,yS _ _ n hn,hf n hn]
 unfold fC
 rw[List.any_append]
 simp[hc,Bool.or_assoc]
theorem Az {s:ByteArray}{L:List Nat}{bs:Nat→Bool}{p:Nat}(hf:vC s L bs)(hc:aR (bt s p)=false):vC s (L++[p]) bs:=by
 intro n hn
 rw[hf n hn]
 unfold fC
 rw[List.any_append]
 simp[hc]
theorem s9 {s:ByteArray}{L:List Nat}{c:Int}(h:aR c=true):cj s L c=true:=by
 have h1:97≤c∧c≤102:=by simpa [aR] using h
 have:ex c=false:=by simp[ex];omega
 simp[cj,this]
theorem D9 {s:ByteArray}{L:List Nat}{c:Int}(h:gJ c=true):cj s L c=true:=by
 have h1:(c=60∨c=61)∨c=35:=by simpa [gJ] using h
 have:ex c=false:=by simp[ex];omega
 simp[cj,this]
theorem DZ {s:ByteArray}{L:List Nat}{c:Int}(h:fe c=true):cj s L c=true:=by
 have h1:c=94∨c=126:=by simpa [fe] using h
 have:ex c=false:=by simp[ex];omega
 simp[cj,this]
theorem Gb (s:ByteArray)(L:List Nat)(p:Nat):cW s L p 3=(cj s L (bt s p)&&cj s L (bt s (p+1))&&cj s L (bt s (p+2))):=by
 rw[cm,cm,cm];simp[cW]
theorem Ge (s:ByteArray)(L:List Nat)(p:Nat):cW s L p 4=(cj s L (bt s p)&&cj s L (bt s (p+1))&&cj s L (bt s (p+2))&&cj s L (bt s (p+3))):=by
 rw[cm,Gb]
theorem Eq {s:ByteArray}{i:Nat}(h:bu s i=3):aR (bt s i)=true:=by
 unfold bu at h;split at h
 ·assumption
 ·omega
theorem E9 {s:ByteArray}{i:Nat}(h:bS s i=3):gJ (bt s (i+1))=true:=by
 unfold bS at h;split at h
 ·split at h
  ·assumption
  ·omega
 ·omega
theorem E4 {s:ByteArray}{L:List Nat}{bs:Nat→Bool}{p:Nat}(hf:vC s L bs)(h:b7 s p=true)(hc:aR (bt s p)=false):ig s p bs=!(cW s L p (aH s p)):=by
 unfold ig
 by_cases h33:bt s p=33
 ·have hp:bu s (p+1)=3:=by simpa [b7,h33] using h
  have e:dg s p=l8 2 s (p+1):=by simp[dg,h33]
  have el:aH s p=4:=by simp[aH,h33,hp]
  have h0:cj s L 33=true:=by simp[cj,show ex 33=false by decide]
  rw[e,el,Ge]
  simp only[l8]
  rw[iO hf,iO hf,h33,h0,s9 (Eq hp)]
  simp[show p+1+1=p+2 by omega,show p+1+2=p+3 by omega,Bool.not_and]
 ·have hp:bS s p=3:=by simpa [b7,h33,hc] using h
  have e:dg s p=qX s p:=by simp[dg,h33,hc]
  have el:aH s p=3:=by simp[aH,h33,hc,hp]
  rw[e,el,Gb]
  simp only[qX]
  rw[iO hf,iO hf,D9 (E9 hp)]
  simp[Bool.not_and]
theorem py {s:ByteArray}{L:List Nat}{p n:Nat}:cW s L p (n+(c9 s (p+n) - (p+n)))=(cW s L p n&&cj s L (bt s (p+n))):=by
 unfold c9
 split
 ·rename_i ht
  rw[show n+(p+n+2 - (p+n))=n+1+1 by omega,cm,cm,show p+(n+1)=p+n+1 by omega,DZ ht,Bool.and_true]
 ·rw[show n+(p+n+1 - (p+n))=n+1 by omega,cm]
theorem zh {s:ByteArray}{L:List Nat}{bs:Nat→Bool}{p:Nat}(hf:vC s L bs)(h:cT s p=true):jx s p bs=!(cW s L p (aS s p)):=by
 unfold jx
 have hsm:∀ c:Int,ex c=false→cj s L c=true:=fun c hc=>by simp[cj,hc]
 unfold cT at h
 by_cases h43:bt s p=43
 ·simp only[h43,if_true] at h
  have hh:=h
  simp only[fJ,Bool.and_eq_true] at h
  obtain⟨⟨h0,h1⟩,h2⟩:=h
  have hj:=ew s (p+2)
  have hj2:=ew s (c9 s (p+2))
  have e:dZ s p=wU s (p+1):=by simp[dZ,h43]
  have e1:c9 s (p+1+1)=c9 s (p+2):=rfl
  have el:aS s p=(2+(c9 s (p+2) - (p+2)))+(c9 s (c9 s (p+2)) - c9 s (p+2)):=by
   simp only[aS,h43,if_true,cQ,h0,h1,h2,e1];omega
  have hb:cW s L p (aS s p)=(cj s L (bt s (p+2))&&cj s L (bt s (c9 s (p+2)))):=by
   have x1:=py (s:=s) (L:=L) (p:=p) (n:=2)
   have x2:=py (s:=s) (L:=L) (p:=p) (n:=2+(c9 s (p+2) - (p+2)))
   rw[show p+(2+(c9 s (p+2) - (p+2)))=c9 s (p+2) by omega] at x2
   rw[el,x2,x1,cm,cm,Nat.add_zero,h43,hsm 43 (by decide),s9 h0]
   simp[cW]
  rw[hb,e]
  simp only[wU]
  rw[iO hf,iO hf]
  simp only[Bool.not_and,e1]
 ·by_cases h45:bt s p=45
  ·simp only[h45,if_true,show ¬(45:Int)=43 by decide,if_false] at h
   simp only[gq,Bool.and_eq_true] at h
   obtain⟨h0,h1⟩:=h
   have hj:=ew s (p+2)
   have e:dZ s p=vZ s (p+1):=by simp[dZ,h45]
   have e1:c9 s (p+1+1)=c9 s (p+2):=rfl
   have el:aS s p=2+(c9 s (p+2) - (p+2)):=by
    simp only[aS,h45,if_true,show ¬(45:Int)=43 by decide,if_false,c8,h0,h1,e1];omega
   have hb:cW s L p (aS s p)=cj s L (bt s (p+2)):=by
    rw[el,py,cm,cm,Nat.add_zero,h45,hsm 45 (by decide),s9 h0]
    simp[cW]
   rw[hb,e]
   simp only[vZ]
   rw[iO hf]
   simp[e9]
  ·have h46:bt s p=46:=by simpa [h43,h45] using h
   have e:dZ s p=⟨3,0,0,0,0,0,0,0⟩:=by simp[dZ,h43,h45]
   have el:aS s p=1:=by simp[aS,h46]
   rw[el,e,cm,Nat.add_zero,h46,hsm 46 (by decide)]
   simp[e9,cW]
theorem pr {s:ByteArray}{L:List Nat}(hL:∀ p∈L,b7 s p=true):∀ n,n≤L.length→(∃ bs,b9 s (L.take n) (fun _=>false)=some bs∧vC s (L.take n) bs∧ko s L n=true)∨(b9 s (L.take n) (fun _=>false)=none∧ko s L n=false)
 |0,_=>.inl ⟨_,rfl,fun n _=>rfl,rfl⟩
 |n+1,h=>by
  have hlt:n<L.length:=by omega
  have hok:=hL L[n] (List.getElem_mem hlt)
  have hgd:L.getD n 0=L[n]:=by simp[List.getD,hlt]
  have ht:L.take (n+1)=L.take n++[L[n]]:=List.take_succ_eq_append_getElem hlt
  rcases pr hL n (by omega) with ⟨bs,h1,h2,h3⟩|⟨h1,h2⟩
  ·rw[jq hlt h1,jo,h3,Bool.true_and,oV,hgd]
   by_cases hc:aR (bt s L[n])=true
   ·rw[if_pos ((ld hok).mpr hc)]
    exact .inl ⟨_,rfl,by rw[ht];exact DD h2 hok hc,by simp[hc]⟩
   ·have hc':aR (bt s L[n])=false:=by simpa using hc
    rw[if_neg (fun e=>hc ((ld hok).mp e)),E4 h2 hok hc',hc',Bool.false_or]
    cases hb:cW s (L.take n) L[n] (aH s L[n]) with
    |true=>exact .inl ⟨bs,rfl,by rw[ht];exact Az h2 hc',rfl⟩
    |false=>exact .inr ⟨rfl,rfl⟩
  ·right
   constructor
   ·rw[ht,eR,h1];rfl
   ·rw[jo,h2];rfl
theorem AC {s:ByteArray}{L K:List Nat}(hL:∀ p∈L,b7 s p=true)(hK:∀ p∈K,cT s p=true):mw s L K=!(kl s L K):=by
 unfold mw kl
 rcases pr hL L.length (Nat.le_refl _) with ⟨bs,h1,h2,h3⟩|⟨h1,h2⟩
 ·rw[List.take_of_length_le (Nat.le_refl _)] at h1 h2
  rw[h1,h3]
  simp only[Bool.true_and]
  unfold iB mn
  rw[Bool.eq_iff_iff]
  simp only[List.any_eq_true,Bool.not_eq_true',List.all_eq_false]
  constructor
  ·rintro⟨p,hp,hx⟩
   exact⟨p,hp,by rw[zh h2 (hK p hp)] at hx;simpa using hx⟩
  ·rintro⟨p,hp,hx⟩
   exact⟨p,hp,by rw[zh h2 (hK p hp)];simpa using hx⟩
 ·rw[List.take_of_length_le (Nat.le_refl _)] at h1
  rw[h1,h2];rfl
theorem lz {s:ByteArray}{i:Nat}{L:List Nat}{j:Nat}{ok:Bool}(h:jz s i L j ok):ok=true→∀ p∈L,b7 s p=true:=by
 refine jz.ind (M:=fun i L j ok=>ok=true→∀ p∈L,b7 s p=true) ?_ ?_ ?_ ?_ ?_ h
 ·intro _ _
  intro h;cases h
 ·intro _ _ _
  intro h;cases h
 ·intro _ _ h _
  intro _ p hp;rw[List.mem_singleton.mp hp];exact h
 ·intro _ _ _ _ _
  intro h;cases h
 ·intro _ _ _ _ _ h _ _ ih
  intro e p hp
  rcases List.mem_cons.mp hp with rfl|hp
  ·exact h
  ·exact ih e p hp
theorem yW {s:ByteArray}{i:Nat}{L:List Nat}{j:Nat}{ok:Bool}(h:jX s i L j ok):ok=true→∀ p∈L,cT s p=true∧p+aS s p≤s.size:=by
 refine jX.ind (M:=fun i L j ok=>ok=true→∀ p∈L,cT s p=true∧p+aS s p≤s.size) ?_ ?_ ?_ ?_ ?_ h
 ·intro _ _
  intro h;cases h
 ·intro _ _ _
  intro h;cases h
 ·intro _ hi h _
  intro _ p hp;rw[List.mem_singleton.mp hp];exact⟨h,mC hi⟩
 ·intro _ _ _ _ _
  intro h;cases h
 ·intro _ _ _ _ hi h _ _ ih
  intro e p hp
  rcases List.mem_cons.mp hp with rfl|hp
  ·exact⟨h,mC hi⟩
  ·exact ih e p hp
theorem Et {s:ByteArray}{i:Nat}{L:List Nat}{j:Nat}{ok:Bool}(h:jz s i L j ok):ok=true→i+L.length≤j:=by
 refine jz.ind (M:=fun i L j ok=>ok=true→i+L.length≤j) ?_ ?_ ?_ ?_ ?_ h
 ·intro _ _
  intro h;cases h
 ·intro _ _ _
  intro h;cases h
 ·intro _ _ _ _
  intro _;simp
 ·intro _ _ _ _ _
  intro h;cases h
 ·intro _ _ _ _ _ _ _ _ ih
  intro e;have:=ih e;simp;omega
theorem Fd {s:ByteArray}{i:Nat}{L:List Nat}{j:Nat}{ok:Bool}(h:jX s i L j ok):ok=true→i+L.length≤j:=by
 refine jX.ind (M:=fun i L j ok=>ok=true→i+L.length≤j) ?_ ?_ ?_ ?_ ?_ h
 ·intro _ _
  intro h;cases h
 ·intro _ _ _
  intro h;cases h
 ·intro _ _ _ _
  intro _;simp
 ·intro _ _ _ _ _
  intro h;cases h
 ·intro _ _ _ _ _ _ _ _ ih
  intro e;have:=ih e;simp;omega
theorem qO {w w':World}{B:Nat}{s:ByteArray}{R:List ay}{xs:List Value}(h:gh w B s R xs)(hg:w.grownBy w' none):gh w' B s R xs:=g8 hg (fun g hg=>by cases hg) R xs h
theorem oI {w w':World}{B:Nat}{s:ByteArray}{v:Value}{R:List ay}(h:js w B s v R)(hg:w.grownBy w' none):js w' B s v R:=by
 obtain⟨xs,h1,h2⟩:=h
 exact⟨xs,aq h1 hg (fun g hg=>by cases hg),qO h2 hg⟩
theorem gg.lens {s:ByteArray}{r:ay}(h:gg s r)(hs:s.size≤400):r.2.1.length≤400∧r.2.2.length≤400:=by
 have h1:=Et h.conds rfl
 have h2:=Fd h.acts rfl
 have h3:=mI h.acts rfl
 omega
theorem nw {s:ByteArray}{r:ay}(h:gg s r):ip s r.2.1 r.2.2=(decide (5<r.2.1.length)||decide (4<r.2.2.length)||decide (3<eo s r.2.1)):=by
 rw[ip,vn (lz h.conds rfl)]
theorem zb {s:ByteArray}{r:ay}(h:gg s r):mw s r.2.1 r.2.2=!(kl s r.2.1 r.2.2):=AC (lz h.conds rfl) (fun p hp=>(yW h.acts rfl p hp).1)
def Ce (w:World)(s:ByteArray)(x p:Int)(o:Option (List ay))(e:Ending)(w':World):Prop:=
 ∃ v,e=.returned (.tuple #[v,.int .i64 x,.int .i64 p])∧(∀ R,o=some R→js w' w.heap.size s v R)∧(o=none→v=.slice none 0 0)∧w.grownBy w' none
theorem lg (s:ByteArray)(R:List ay)(w:World)(x p:Int)(o:Option (List ay))(hs:s.size≤400)(hR:kW s 0 R s.size true)
  (o1:Option Nat) (h1:bI (iV s R) R.length o1) (o2:Option Nat) (h2:bI (jO s R) R.length o2)
  (e1:∀ m,o1=some m→x=3∧p=m∧o=none) (e2:∀ m,o1=none→o2=some m→x=4∧p=m∧o=none) (e3:o1=none→o2=none→x=0∧p=0∧o=some R) :
  Calls Tryz.prog 39 #[.string s] w (Ce w s x p o):=by
 have hall:=(sJ hR rfl).2
 have hlen:=oZ hR
 have HALL:=af hall
 have HPL:=af (fun W=>sA s W hs)
 have HRD:=af (fun W=>AS s R W hs hR)
 have HGO:=af ((pV hR).1 rfl)
 have H1:=af h1
 have H2:=af h2
 have E1:=af e1
 have E2:=af e2
 have E3:=af e3
 clear hall hR h1 h2 e1 e2 e3
 go_enter Tryz.func39,Tryz.ntmps39
 go_wp2_with fail
 go_at_call 76
 refine (HPL.out _).mono ?_
 rintro e w' ⟨pp,rfl,hp,rfl⟩
 have hpp:=(w9 HGO.out.1 HGO.out.2 hp).1
 subst hpp
 clear hp HPL HGO
 go_wp2_with fail
 go_at_call 77
 refine (HRD.out _).mono ?_
 rintro e w1 ⟨v,rfl,⟨xs,hown,hpar⟩,hg1⟩
 obtain⟨a,m,c,rfl⟩:=an hown
 have em:=au hown
 subst em
 have HP:=af hpar
 clear HRD hpar
 go_wp2_with fail
 go_loopw [7] (fun t wr=>∃ k:Nat,k≤R.length∧t=.int .i64 k∧w1.grownBy wr none∧∀ j,j<k→¬iV s R j) (fun t _=>R.length - (intOf t).toNat)
 case atStart=>exact⟨0,Nat.zero_le _,rfl,ag _ _,fun j hj=>by omega⟩
 case round=>
  obtain⟨k,hk,rfl,hg,hno⟩:=hrel
  have HN:=af hno
  clear hno
  by_cases hlt:k<R.length
  ·obtain⟨a1,m1,c1,a2,m2,c2,x0,x1,x2,q1,q2⟩:=iL R xs HP.out k hlt
   obtain⟨g,rfl,_,hgb,hgl,hcell⟩:=aC hown (by omega)
   have d0:=hg.cell (hcell _ _ x0) (by simp)
   have d1:=hg.cell (hcell _ _ x1) (by simp)
   have d2:=hg.cell (hcell _ _ x2) (by simp)
   have hok:=HALL.out R[k] (List.getElem_mem hlt)
   have em1:=au q1
   have em2:=au q2
   subst em1 em2
   have q1':=aq q1 hg (fun g hg=>by cases hg)
   have HPT:=af (tF s R[k].2.1 (bt s R[k].1 - 48) a1 a2 _ c1 R[k].2.2.length c2 w.heap.size wr (lz hok.conds rfl) (hok.lens hs).1 q1')
   have hpc:=mx s R[k].2.1
   have hl1:=(hok.lens hs).1
   have hl2:=(hok.lens hs).2
   have HB:Hid (iV s R k↔(9≤k∨5<R[k].2.1.length∨4<R[k].2.2.length∨3<eo s R[k].2.1)):=af (by
    constructor
    ·rintro⟨_,h|h⟩
     ·exact .inl h
     ·rw[nw hok] at h;simp at h;rcases h with (h|h)|h
      ·exact .inr (.inl h)
      ·exact .inr (.inr (.inl h))
      ·exact .inr (.inr (.inr h))
    ·intro h
     refine⟨hlt,?_⟩
     rcases h with h|h|h|h
     ·exact .inl h
     ·right;rw[nw hok];simp[h]
     ·right;rw[nw hok];simp[h]
     ·right;rw[nw hok];simp[h])
   clear hcell x0 x1 x2 q1 q2 q1' hok
   obtain⟨lc,hlc⟩:∃ lc,lc=R[k].2.1.length:=⟨_,rfl⟩
   obtain⟨la,hla⟩:∃ la,la=R[k].2.2.length:=⟨_,rfl⟩
   obtain⟨np,hnp⟩:∃ np,np=eo s R[k].2.1:=⟨_,rfl⟩
   obtain⟨wt,hwt⟩:∃ wt,wt=bt s R[k].1 - 48:=⟨_,rfl⟩
   rw[←hlc] at HPT HB d1 hpc hl1
   rw[←hla] at HPT HB d2 hl2
   rw[←hnp] at HPT HB hpc
   rw[←hwt] at HPT d0
   clear hlc hla hnp hwt
   by_cases hb:9≤k∨5<lc∨4<la∨3<np
   ·have HO:Hid (x=3∧p=k∧o=none):=af (by
     have hf:bI (iV s R) R.length (some k):=⟨hlt,HB.out.mpr hb,HN.out⟩
     exact E1.out k (bI.unique H1.out hf))
    obtain⟨rfl,rfl,rfl⟩:=HO.out
    go_wp2_with fail
    go_at_call 78
    refine HPT.out.mono ?_
    rintro e w2 ⟨rfl,hg2⟩
    have d1':=hg2.cell d1 (by simp)
    have d2':=hg2.cell d2 (by simp)
    by_cases z1:5<lc
    ·go_wp2
     go_ret3
     exact⟨_,rfl,(fun R h=>by cases h),(fun _=>rfl),ae hg1 (ae hg hg2)⟩
    ·by_cases z2:3<np
     ·go_wp2
      go_ret3
      exact⟨_,rfl,(fun R h=>by cases h),(fun _=>rfl),ae hg1 (ae hg hg2)⟩
     ·by_cases z3:4<la
      ·go_wp2
       go_ret3
       exact⟨_,rfl,(fun R h=>by cases h),(fun _=>rfl),ae hg1 (ae hg hg2)⟩
      ·have z4:9≤k:=by omega
       go_wp2
       go_ret3
       exact⟨_,rfl,(fun R h=>by cases h),(fun _=>rfl),ae hg1 (ae hg hg2)⟩
   ·have HNB:Hid (¬iV s R k):=af (fun h=>hb (HB.out.mp h))
    have z1:¬5<lc:=by omega
    have z2:¬3<np:=by omega
    have z3:¬4<la:=by omega
    have z4:¬9≤k:=by omega
    clear hb
    go_wp2_with fail
    go_at_call 78
    refine HPT.out.mono ?_
    rintro e w2 ⟨rfl,hg2⟩
    have d1':=hg2.cell d1 (by simp)
    have d2':=hg2.cell d2 (by simp)
    have hg':=ae hg hg2
    clear hg hg2 d0 d1 d2
    go_wp2
    go_roundw
    case rel=>
     refine⟨k+1,by omega,by go_num,hg',?_⟩
     intro j hj
     by_cases ej:j=k
     ·rw[ej];exact HNB.out
     ·exact HN.out j (by omega)
    case measure=>simp[intOf];omega
  ·have HO1:Hid (o1=none):=af (bI.unique H1.out (show bI (iV s R) R.length none from fun j hj=>HN.out j (by omega)))
   clear HN
   go_wp2_with fail
   go_loopw [9] (fun t wr=>∃ k:Nat,k≤R.length∧t=.int .i64 k∧w1.grownBy wr none∧∀ j,j<k→¬jO s R j) (fun t _=>R.length - (intOf t).toNat)
   case atStart=>exact⟨0,Nat.zero_le _,rfl,hg,fun j hj=>by omega⟩
   case round=>
    clear hg
    obtain⟨k',hk',rfl,hg,hno⟩:=hrel
    have HN:=af hno
    clear hno
    by_cases hlt':k'<R.length
    ·obtain⟨a1,m1,c1,a2,m2,c2,x0,x1,x2,q1,q2⟩:=iL R xs HP.out k' hlt'
     obtain⟨g,rfl,_,hgb,hgl,hcell⟩:=aC hown (by omega)
     have d0:=hg.cell (hcell _ _ x0) (by simp)
     have d1:=hg.cell (hcell _ _ x1) (by simp)
     have d2:=hg.cell (hcell _ _ x2) (by simp)
     have hok:=HALL.out R[k'] (List.getElem_mem hlt')
     have q1':=aq q1 hg (fun g hg=>by cases hg)
     have q2':=aq q2 hg (fun g hg=>by cases hg)
     have HWH:=af (Bb s R[k'].2.1 R[k'].2.2 (bt s R[k'].1 - 48) a1 a2 m1 c1 m2 c2 w.heap.size wr hs (lz hok.conds rfl) (fun p hp=>(yW hok.acts rfl p hp).2) (hok.lens hs).1 (hok.lens hs).2 q1' q2')
     have HB:Hid (jO s R k'↔kl s R[k'].2.1 R[k'].2.2=false):=af (by
      constructor
      ·rintro⟨_,h⟩;rw[zb hok] at h;simpa using h
      ·intro h;exact⟨hlt',by rw[zb hok,h];rfl⟩)
     clear hcell x0 x1 x2 q1 q2 q1' q2' hok
     obtain⟨bb,hbb⟩:∃ bb,bb=kl s R[k'].2.1 R[k'].2.2:=⟨_,rfl⟩
     rw[←hbb] at HWH HB
     clear hbb
     cases bb with
     |false=>
      have HO:Hid (x=4∧p=k'∧o=none):=af (by
       have hf:bI (jO s R) R.length (some k'):=⟨hlt',HB.out.mpr rfl,HN.out⟩
       exact E2.out k' HO1.out (bI.unique H2.out hf))
      obtain⟨rfl,rfl,rfl⟩:=HO.out
      go_wp2_with fail
      go_at_call 79
      refine HWH.out.mono ?_
      rintro e w2 ⟨rfl,hg2⟩
      go_wp2
      go_ret3
      exact⟨_,rfl,(fun R h=>by cases h),(fun _=>rfl),ae hg1 (ae hg hg2)⟩
     |true=>
      have HNB:Hid (¬jO s R k'):=af (fun h=>by have:=HB.out.mp h;cases this)
      go_wp2_with fail
      go_at_call 79
      refine HWH.out.mono ?_
      rintro e w2 ⟨rfl,hg2⟩
      have hg':=ae hg hg2
      clear hg hg2 d0 d1 d2
      go_wp2
      go_roundw
      case rel=>
       refine⟨k'+1,by omega,by go_num,hg',?_⟩
       intro j hj
       by_cases ej:j=k'
       ·rw[ej];exact HNB.out
       ·exact HN.out j (by omega)
      case measure=>simp[intOf];omega
    ·have HO2:Hid (o2=none):=af (bI.unique H2.out (show bI (jO s R) R.length none from fun j hj=>HN.out j (by omega)))
     obtain⟨rfl,rfl,rfl⟩:=E3.out HO1.out HO2.out
     go_wp2
     go_ret3
     exact⟨_,rfl,(fun R' h=>by cases h;exact oI ⟨xs,hown,HP.out⟩ hg),(fun h=>by cases h),ae hg1 hg⟩
theorem kA (bad:Nat→Prop):∀ n,∃ o,bI bad n o
 |0=>⟨none,fun j hj=>by omega⟩
 |n+1=>by
  obtain⟨o,h⟩:=kA bad n
  cases o with
  |some m=>exact⟨some m,by have h1:=h.1;omega,h.2.1,h.2.2⟩
  |none=>
   by_cases hb:bad n
   ·exact⟨some n,by omega,hb,h⟩
   ·refine⟨none,fun j hj=>?_⟩
    by_cases e:j=n
    ·rw[e];exact hb
    ·exact h j (by omega)
theorem pI {s:ByteArray}{R:List ay}{j:Nat}(h:kW s 0 R j true):j=s.size:=by
 obtain⟨⟨n,hn,hq⟩,hj⟩:=(pV h).1 rfl
 have:=kZ s n (by rw[hq];omega)
 omega
theorem mt (s:ByteArray)(w:World)(x p:Int)(o:Option (List ay))(hs:s.size≤maxLen)(h:cz s x p o):
  Calls Tryz.prog 39 #[.string s] w (Ce w s x p o):=by
 unfold maxLen at hs
 rcases h with ⟨h4,rfl,rfl,rfl⟩|⟨R,j,h4,hr,rfl,rfl,rfl⟩|⟨R,j,m,h4,hr,hb,rfl,rfl,rfl⟩|⟨R,j,m,h4,hr,hb,hu,rfl,rfl,rfl⟩|⟨R,j,h4,hr,hb,hu,rfl,rfl,rfl⟩
 ·go_enter Tryz.func39,Tryz.ntmps39
  go_wp2
  go_ret3
  exact⟨_,rfl,(fun R h=>by cases h),(fun _=>rfl),ag _ _⟩
 ·have HPL:=af (fun W=>sA s W h4)
  have HST:=af ((pV hr).2 rfl)
  clear hr
  go_enter Tryz.func39,Tryz.ntmps39
  go_wp2_with fail
  go_at_call 76
  refine (HPL.out _).mono ?_
  rintro e w' ⟨pp,rfl,hp,rfl⟩
  have hpp:=yd HST.out hp
  subst hpp
  clear hp
  go_wp2
  go_ret3
  exact⟨_,rfl,(fun R h=>by cases h),(fun _=>rfl),ag _ _⟩
 ·have e:=pI hr
  subst e
  obtain⟨o2,h2⟩:=kA (jO s R) R.length
  exact lg s R w _ _ _ h4 hr (some m) hb o2 h2 (fun m' e=>by cases e;exact⟨rfl,rfl,rfl⟩) (fun m' e=>by cases e) (fun e=>by cases e)
 ·have e:=pI hr
  subst e
  exact lg s R w _ _ _ h4 hr none hb (some m) hu (fun m' e=>by cases e) (fun m' _ e=>by cases e;exact⟨rfl,rfl,rfl⟩) (fun _ e=>by cases e)
 ·have e:=pI hr
  subst e
  exact lg s R w _ _ _ h4 hr none hb none hu (fun m' e=>by cases e) (fun m' _ e=>by cases e) (fun _ _=>⟨rfl,rfl,rfl⟩)
def qP (v:Value)(room:Int):Array Value:=#[v,.int .i64 room,.slice none 0 0,.slice none 0 0,.slice none 0 0,.int .i64 0]
theorem Ab (s:ByteArray)(room:Int)(w:World)(x p:Int)(o:Option (List ay))(hs:s.size≤maxLen)(h:cz s x p o)(h1:1≤x):
  Calls Tryz.prog 17 #[.string s,.int .i64 room] w fun e w'=>e=.returned (.tuple #[.pointer none,.int .i64 x,.int .i64 p])∧w.grownBy w' none:=by
 have hx0:(x != 0)=true:=by simp;omega
 have HR:=af (fun W=>mt s W x p o hs h)
 clear h
 go_enter Tryz.func17,Tryz.ntmps17
 go_wp2_with fail
 go_at_call 39
 refine (HR.out _).mono ?_
 rintro e w1 ⟨v,rfl,ho,hn,hg⟩
 clear ho hn
 go_wp2
 go_ret3
 exact⟨rfl,hg⟩
theorem xW (s:ByteArray)(room:Int)(w:World)(p:Int)(o:Option (List ay))(hs:s.size≤maxLen)(h:cz s 0 p o)(h1:room<1∨999<room):
  Calls Tryz.prog 17 #[.string s,.int .i64 room] w fun e w'=>e=.returned (.tuple #[.pointer none,.int .i64 5,.int .i64 0])∧w.grownBy w' none:=by
 have HR:=af (fun W=>mt s W 0 p o hs h)
 clear h
 rcases h1 with h1|h1
 all_goals
  go_enter Tryz.func17,Tryz.ntmps17
  go_wp2_with fail
  go_at_call 39
  refine (HR.out _).mono ?_
  rintro e w1 ⟨v,rfl,ho,hn,hg⟩
  clear ho hn
  go_wp2
  go_ret3
  exact⟨rfl,hg⟩
theorem C3 (s:ByteArray)(room:Int)(w:World)(p:Int)(R:List ay)(hs:s.size≤maxLen)(h:cz s 0 p (some R))(h1:1≤room)(h2:room≤999):
  Calls Tryz.prog 17 #[.string s,.int .i64 room] w fun e w'=>∃ g v,e=.returned (.tuple #[.pointer (some ⟨g,0,none⟩),.int .i64 0,.int .i64 0])∧w.heap.size≤g∧w'.heap[g]?=some (.cells (qP v room) 40 (0,0))∧js w' w.heap.size s v R∧w.grownBy w' none:=by
 have HR:=af (fun W=>mt s W 0 p (some R) hs h)
 clear h
 go_enter Tryz.func17,Tryz.ntmps17
 go_wp2_with fail
 go_at_call 39
 refine (HR.out _).mono ?_
 rintro e w1 ⟨v,rfl,ho,hn,hg⟩
 have HO:=af (ho R rfl)
 obtain⟨xs,hown,hpar⟩:=ho R rfl
 obtain⟨a,m,c,rfl⟩:=an hown
 have hsz:=hg.size
 clear ho hn hown hpar
 go_wp2
 go_ret3
 exact⟨w1.heap.size,_,rfl,hsz,heap_alloc_new w1 _,oI HO.out (World.grownBy_alloc w1 _ none),ab hg _⟩
end Go.Proofs.YthlhbjnkohinmaaGreat
