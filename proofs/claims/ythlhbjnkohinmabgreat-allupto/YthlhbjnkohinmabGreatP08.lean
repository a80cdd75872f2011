import Derived.Test.YthlhbjnkohinmabGreatP07
import Derived.Test.YthlhbjnkohinmabGreatP05
namespace Go.Proofs.YthlhbjnkohinmabGreat
set_option maxRecDepth 100000
set_option maxHeartbeats 8000000
open Go.RowKit
theorem C0 {w:World}{base:Nat}{e:TypeId}{a:Option Addr}{m c n i:Nat}{xs:List Value}(h:w.ownsRow base e 1 (.slice a m c) n xs)(hi:i≤n):w.ownsRow base e 1 (.slice a i c) i (xs.take i):=by
 obtain⟨h1,h2⟩:=h
 refine⟨by simp[h1];omega,?_⟩
 rcases h2 with ⟨hv,h0⟩|⟨g,cap,cur,hv,hb,hh,hn,hm,hc,ht⟩
 ·cases hv
  left;exact⟨by rw[show i=0 by omega],by omega⟩
 ·cases hv
  right
  refine⟨g,_,cur,rfl,hb,hh,by omega,hm,hc,?_⟩
  rw[←ht,List.take_take]
  congr 1
  omega
theorem tE {w:World}{base:Nat}{e:TypeId}{size:Nat}{a:Option Addr}{m c n:Nat}{xs:List Value}(h:w.ownsRow base e size (.slice a m c) n xs):n≤c:=by
 rcases h.2 with ⟨hv,h0⟩|⟨g,cap,cur,hv,hb,hh,hn,_⟩
 ·omega
 ·cases hv;exact hn
def pk (s:ByteArray)(L:List Nat)(k:Nat):Bool:=aU (bt s (L.getD k 0))||cX s (L.take k) (L.getD k 0) (aH s (L.getD k 0))
def km (s:ByteArray)(L:List Nat)(n:Nat):Bool:=(List.range n).all fun k=>pk s L k
theorem jn (s:ByteArray)(L:List Nat)(n:Nat):km s L (n+1)=(km s L n&&pk s L n):=by
 unfold km;rw[List.range_succ,List.all_append];simp
theorem td {s:ByteArray}{L:List Nat}{n m:Nat}(h:km s L n=false)(hm:n≤m):km s L m=false:=by
 induction m with
 |zero=>rw[show n=0 by omega] at h;exact h
 |succ m ih=>
  by_cases e:n=m+1
  ·rw[←e];exact h
  ·rw[jn,ih (by omega)];rfl
def mi (s:ByteArray)(L K:List Nat):Bool:=K.all fun p=>cX s L p (aR s p)
def j5 (s:ByteArray)(L K:List Nat):Bool:=km s L L.length&&mi s L K
theorem zV (s:ByteArray)(L K:List Nat)(x:Int)(a a2:Option Addr)(m c m2 c2 B:Nat)(w:World)(hs:s.size≤400)(hL:∀ p∈L,b9 s p=true)(hK:∀ p∈K,p+aR s p≤s.size)(hlen:L.length≤400)(hlenK:K.length≤400)
  (h:w.ownsRow B 9 1 (.slice a m c) L.length (dL s L)) (h2:w.ownsRow B 9 1 (.slice a2 m2 c2) K.length (gF s K)) :
  Calls Tryz.prog 73 #[.agg #[.int .i64 x,.slice a m c,.slice a2 m2 c2]] w fun e w'=>e=.returned (.bool (j5 s L K))∧w.grownBy w' none:=by
 have e1:=ar h
 have e2:=ar h2
 subst e1 e2
 have HL:=af hL
 have HK:=af hK
 clear hL hK
 obtain⟨q,hq⟩:∃ q,q=j5 s L K:=⟨_,rfl⟩
 rw[←hq]
 have HQ:=af hq
 clear hq
 have hw0:∃ w0,w0=w.alloc (.cells #[.int .i64 x,.slice a L.length c,.slice a2 K.length c2] 155):=⟨_,rfl⟩
 obtain⟨w0,hw0⟩:=hw0
 have h':w0.ownsRow B 9 1 (.slice a L.length c) L.length (dL s L):=by rw[hw0];exact h.alloc _
 have h2':w0.ownsRow B 9 1 (.slice a2 K.length c2) K.length (gF s K):=by rw[hw0];exact h2.alloc _
 have d1:w0.cell? ⟨w.heap.size,1,none⟩=some (.slice a L.length c):=by rw[hw0];simp[go_sem]
 have d2:w0.cell? ⟨w.heap.size,2,none⟩=some (.slice a2 K.length c2):=by rw[hw0];simp[go_sem]
 have HG0:Hid (w.grownBy w0 none):=af (by rw[hw0];exact ab (ag _ _) _)
 have HW0:=af hw0
 have D1:=af d1
 have D2:=af d2
 clear hw0 h h2
 go_enter Tryz.func73,Tryz.ntmps73
 go_wp2_with fail
 rw[←HW0.out]
 clear HW0
 go_loopw [3] (fun t wr=>∃ (k:Nat),k≤L.length∧t=.int .i64 k∧wr.heap=w0.heap∧w.grownBy wr none∧km s L k=true) (fun t _=>L.length - (intOf t).toNat)
 case atStart=>exact⟨0,Nat.zero_le _,rfl,rfl,HG0.out,rfl⟩
 case round=>
  obtain⟨k,hk,rfl,hhp,hgr,hno⟩:=hrel
  have HN:=af hno
  have HHP:=af hhp
  have d1:=(iJ hhp _).trans d1
  have d2:=(iJ hhp _).trans d2
  clear hno hhp
  by_cases hlt:k<L.length
  ·obtain⟨g,rfl,_,hgb,hgl,hcell⟩:=aC h' (by omega)
   have hok:=HL.out L[k] (List.getElem_mem hlt)
   obtain⟨p3,ps,p4⟩:=tI hok
   have hce:w0.cell? ⟨g,k,none⟩=some (.string (s.extract L[k] (L[k]+aH s L[k]))):=hcell k _ (by simp[dL,hlt])
   replace hce:=(iJ HHP.out _).trans hce
   clear hcell
   have hpre:=C0 h' (i:=k) (by omega)
   rw[show (dL s L).take k=dL s (L.take k) by simp[dL,List.map_take]] at hpre
   have hlk:(L.take k).length=k:=by simp;omega
   have HBD:Hid (∀ W:World,W.heap=w0.heap→Calls Tryz.prog 102 #[.slice (some ⟨g,0,none⟩) k c,.string (s.extract L[k] (L[k]+aH s L[k]))] W fun e w'=>e=.returned (.bool (cX s (L.take k) L[k] (aH s L[k])))∧w'=W):=af (fun W hW=>
    (sm s (L.take k) L[k] (aH s L[k]) (some ⟨g,0,none⟩) k c B W ps hs (fun p hp=>HL.out p (List.mem_of_mem_take hp)) (by omega) (by rw[hlk];exact dp hpre hW)).mono fun _ _ ⟨h1,h2⟩=>⟨h1,h2.symm⟩)
   have HT:=af (jn s L k)
   have hgd:L.getD k 0=L[k]:=by simp[List.getD,hlt]
   rw[HN.out,Bool.true_and,pk,hgd] at HT
   obtain⟨u,hu⟩:∃ u,u=s.extract L[k] (L[k]+aH s L[k]):=⟨_,rfl⟩
   rw[←hu] at hce HBD
   have v0:bt u 0=bt s L[k]:=by rw[hu,kx ps (by omega)];rfl
   have u0:0<u.size:=by rw[hu,db ps];omega
   have HPT:=af (fun W=>ib u W u0)
   rw[v0] at HPT
   clear v0 hu hok p3 ps p4 hpre hgd u0 hlk
   obtain⟨bb,hbb⟩:∃ bb,bb=cX s (L.take k) L[k] (aH s L[k]):=⟨_,rfl⟩
   obtain⟨cc,hcc⟩:∃ cc,cc=aU (bt s L[k]):=⟨_,rfl⟩
   rw[←hbb] at HBD HT
   rw[←hcc] at HPT HT
   clear hbb hcc
   go_wp2_with (go_at_call 101;refine (HPT.out _).mono ?_;rintro e w' ⟨rfl,rfl⟩)
   have hcap:=tE h'
   have hkc:k≤c:=by omega
   have hki:(k:Int)≤c:=by omega
   go_quiet ((go_at_call 102;exact Calls.quiet_of_same (HBD.out _ HHP.out)))
   cases cc with
   |true=>
    go_wp2
    go_roundw
    case rel=>exact⟨k+1,by omega,by go_num,HHP.out,al hgr _,by rw[HT.out];rfl⟩
    case measure=>simp[intOf];omega
   |false=>
    cases bb with
    |true=>
     go_wp2
     go_roundw
     case rel=>exact⟨k+1,by omega,by go_num,HHP.out,al hgr _,by rw[HT.out];rfl⟩
     case measure=>simp[intOf];omega
    |false=>
     have HU:Hid (q=false):=af (by rw[HQ.out,j5,td (n:=k+1) (by rw[HT.out];rfl) (by omega)];rfl)
     go_wp2
     go_ret
     exact⟨c7 HU.out.symm,al hgr _⟩
  ·have HN':Hid (q=mi s L K):=af (by
    rw[HQ.out,j5]
    have:=HN.out
    rw[show k=L.length by omega] at this
    rw[this];rfl)
   clear HN
   go_wp2_with fail
   go_loopw [6] (fun t wr=>∃ (k:Nat),k≤K.length∧t=.int .i64 k∧wr.heap=w0.heap∧w.grownBy wr none∧mi s L (K.take k)=true) (fun t _=>K.length - (intOf t).toNat)
   case atStart=>exact⟨0,Nat.zero_le _,rfl,HHP.out,hgr,rfl⟩
   case round=>
    clear HHP hgr d1 d2
    obtain⟨k',hk',rfl,hhp,hgr,hno⟩:=hrel
    have HN:=af hno
    have HHP:=af hhp
    have d1:=(iJ hhp _).trans D1.out
    have d2:=(iJ hhp _).trans D2.out
    clear hno hhp
    by_cases hlt':k'<K.length
    ·obtain⟨g,rfl,_,hgb,hgl,hcell⟩:=aC h2' (by omega)
     have ps:=HK.out K[k'] (List.getElem_mem hlt')
     have hce:w0.cell? ⟨g,k',none⟩=some (.string (s.extract K[k'] (K[k']+aR s K[k']))):=hcell k' _ (by simp[gF,hlt'])
     replace hce:=(iJ HHP.out _).trans hce
     clear hcell
     have HBD:Hid (∀ W:World,W.heap=w0.heap→Calls Tryz.prog 102 #[.slice a L.length c,.string (s.extract K[k'] (K[k']+aR s K[k']))] W fun e w'=>e=.returned (.bool (cX s L K[k'] (aR s K[k'])))∧w'=W):=af (fun W hW=>
      (sm s L K[k'] (aR s K[k']) a L.length c B W ps hs HL.out hlen (dp h' hW)).mono fun _ _ ⟨h1,h2⟩=>⟨h1,h2.symm⟩)
     have HT:Hid (mi s L (K.take (k'+1))=cX s L K[k'] (aR s K[k'])):=af (by
      have:=HN.out
      unfold mi at this ⊢
      rw[List.take_succ_eq_append_getElem hlt',List.all_append,this];simp)
     obtain⟨u,hu⟩:∃ u,u=s.extract K[k'] (K[k']+aR s K[k']):=⟨_,rfl⟩
     rw[←hu] at hce HBD
     obtain⟨bb,hbb⟩:∃ bb,bb=cX s L K[k'] (aR s K[k']):=⟨_,rfl⟩
     rw[←hbb] at HBD HT
     clear hu hbb ps
     go_wp2_with fail
     go_quiet ((go_at_call 102;exact Calls.quiet_of_same (HBD.out _ HHP.out)))
     cases bb with
     |true=>
      go_wp2
      go_roundw
      case rel=>exact⟨k'+1,by omega,by go_num,HHP.out,al hgr _,HT.out⟩
      case measure=>simp[intOf];omega
     |false=>
      have HU:Hid (q=false):=af (by
       rw[HN'.out]
       have:=HT.out
       unfold mi at this ⊢
       rw[←List.take_append_drop (k'+1) K,List.all_append,this];rfl)
      go_wp2
      go_ret
      exact⟨c7 HU.out.symm,al hgr _⟩
    ·have HU:Hid (q=true):=af (by
      rw[HN'.out]
      have:=HN.out
      rwa [List.take_of_length_le (by omega)] at this)
     go_wp2
     go_ret
     exact⟨c7 HU.out.symm,hgr⟩
theorem yB {c:Int}(h:eA c=true):dw c=2∧dD c=c - 119∧119≤c∧c≤122:=by
 have h1:119≤c∧c≤122:=by simpa [eA] using h
 have h2:bM c=false:=by simp[bM];omega
 exact⟨by simp[dw,h,h2],by simp[dD,h,h2],h1.1,h1.2⟩
theorem rM {c:Int}(h:eA c=false):¬dw c=2:=by
 unfold dw
 split
 ·omega
 ·simp[h]
def tZ (s:ByteArray)(L:List Nat)(bs:Nat→Bool):Prop:=∀ n:Nat,n<4→bs n=fC s L (119+n)
theorem yS (bs:Nat→Bool)(c:Int)(n:Nat)(hn:n<4):je bs (dw c) (dD c) n=(bs n||(c==119+(n:Int))):=by
 unfold je
 cases hl:eA c with
 |true=>
  obtain⟨e1,e2,h1,h2⟩:=yB hl
  rw[e1,e2]
  simp only[decide_true,Bool.true_and]
  congr 1
  rw[Bool.eq_iff_iff]
  simp only[decide_eq_true_eq,beq_iff_eq]
  omega
 |false=>
  have:=rM hl
  have h1:¬(119≤c∧c≤122):=by simpa [eA] using hl
  have h2:(c==119+(n:Int))=false:=by simp;omega
  simp[this,h2]
theorem iS {s:ByteArray}{L:List Nat}{bs:Nat→Bool}(hf:tZ s L bs)(c:Int):fe bs (dw c) (dD c)=!(cn s L c):=by
 unfold fe cn
 cases hl:eA c with
 |true=>
  obtain⟨e1,e2,h1,h2⟩:=yB hl
  rw[e1,e2,hf (c - 119).toNat (by omega),show (119:Int)+((c - 119).toNat:Int)=c by omega]
  simp
 |false=>
  simp[rM hl]
theorem kO {s:ByteArray}{p:Nat}(_h:b9 s p=true):(df s p).k=1↔aU (bt s p)=true:=by
 unfold df
 by_cases h33:bt s p=33
 ·simp only[h33,if_true,l4]
  constructor
  ·intro h;omega
  ·intro h;exact absurd h (by decide)
 ·by_cases hc:aU (bt s p)=true
  ·simp[h33,hc,l4]
  ·simp[h33,hc,rq]
theorem uo {s:ByteArray}{L:List Nat}(h:∀ p∈L,b9 s p=true):bL s L=eu s L:=by
 unfold bL eu
 congr 1
 apply List.filter_congr
 intro p hp
 have:=kO (h p hp)
 rw[Bool.eq_iff_iff]
 simpa using this
theorem CR {s:ByteArray}{L:List Nat}{bs:Nat→Bool}{p:Nat}(hf:tZ s L bs)(_h:b9 s p=true)(hc:aU (bt s p)=true):tZ s (L++[p]) (uy s p bs):=by
 intro n hn
 have h33:¬bt s p=33:=by intro e;rw[e] at hc;exact absurd hc (by decide)
 have e:df s p=l4 1 s p:=by simp[df,h33,hc]
 unfold uy
 rw[e]
 simp only[l4]
 rw[yS _ _ n hn,yS _ _ n hn,hf n hn]
 unfold fC
 rw[List.any_append]
 simp[hc,Bool.or_assoc]
theorem Bl {s:ByteArray}{L:List Nat}{bs:Nat→Bool}{p:Nat}(hf:tZ s L bs)(hc:aU (bt s p)=false):tZ s (L++[p]) bs:=by
 intro n hn
 rw[hf n hn]
 unfold fC
 rw[List.any_append]
 simp[hc]
theorem tO {s:ByteArray}{L:List Nat}{c:Int}(h:aU c=true):cn s L c=true:=by
 have h1:97≤c∧c≤102:=by simpa [aU] using h
 have:eA c=false:=by simp[eA];omega
 simp[cn,this]
theorem EL {s:ByteArray}{L:List Nat}{c:Int}(h:gI c=true):cn s L c=true:=by
 have h1:(c=60∨c=61)∨c=35:=by simpa [gI] using h
 have:eA c=false:=by simp[eA];omega
 simp[cn,this]
theorem EW {s:ByteArray}{L:List Nat}{c:Int}(h:ff c=true):cn s L c=true:=by
 have h1:c=94∨c=126:=by simpa [ff] using h
 have:eA c=false:=by simp[eA];omega
 simp[cn,this]
theorem Gj (s:ByteArray)(L:List Nat)(p:Nat):cX s L p 3=(cn s L (bt s p)&&cn s L (bt s (p+1))&&cn s L (bt s (p+2))):=by
 rw[ci,ci,ci];simp[cX]
theorem Gm (s:ByteArray)(L:List Nat)(p:Nat):cX s L p 4=(cn s L (bt s p)&&cn s L (bt s (p+1))&&cn s L (bt s (p+2))&&cn s L (bt s (p+3))):=by
 rw[ci,Gj]
theorem EK {s:ByteArray}{i:Nat}(h:bx s i=3):aU (bt s i)=true:=by
 unfold bx at h;split at h
 ·assumption
 ·omega
theorem Ee {s:ByteArray}{i:Nat}(h:bT s i=3):gI (bt s (i+1))=true:=by
 unfold bT at h;split at h
 ·split at h
  ·assumption
  ·omega
 ·omega
theorem EF {s:ByteArray}{L:List Nat}{bs:Nat→Bool}{p:Nat}(hf:tZ s L bs)(h:b9 s p=true)(hc:aU (bt s p)=false):im s p bs=!(cX s L p (aH s p)):=by
 unfold im
 by_cases h33:bt s p=33
 ·have hp:bx s (p+1)=3:=by simpa [b9,h33] using h
  have e:df s p=l4 2 s (p+1):=by simp[df,h33]
  have el:aH s p=4:=by simp[aH,h33,hp]
  have h0:cn s L 33=true:=by simp[cn,show eA 33=false by decide]
  rw[e,el,Gm]
  simp only[l4]
  rw[iS hf,iS hf,h33,h0,tO (EK hp)]
  simp[show p+1+1=p+2 by omega,show p+1+2=p+3 by omega,Bool.not_and]
 ·have hp:bT s p=3:=by simpa [b9,h33,hc] using h
  have e:df s p=rq s p:=by simp[df,h33,hc]
  have el:aH s p=3:=by simp[aH,h33,hc,hp]
  rw[e,el,Gj]
  simp only[rq]
  rw[iS hf,iS hf,EL (Ee hp)]
  simp[Bool.not_and]
theorem qS {s:ByteArray}{L:List Nat}{p n:Nat}:cX s L p (n+(da s (p+n) - (p+n)))=(cX s L p n&&cn s L (bt s (p+n))):=by
 unfold da
 split
 ·rename_i ht
  rw[show n+(p+n+2 - (p+n))=n+1+1 by omega,ci,ci,show p+(n+1)=p+n+1 by omega,EW ht,Bool.and_true]
 ·rw[show n+(p+n+1 - (p+n))=n+1 by omega,ci]
theorem zd {s:ByteArray}{L:List Nat}{bs:Nat→Bool}{p:Nat}(hf:tZ s L bs)(h:cU s p=true):ju s p bs=!(cX s L p (aR s p)):=by
 unfold ju
 have hsm:∀ c:Int,eA c=false→cn s L c=true:=fun c hc=>by simp[cn,hc]
 unfold cU at h
 by_cases h43:bt s p=43
 ·simp only[h43,if_true] at h
  have hh:=h
  simp only[fL,Bool.and_eq_true] at h
  obtain⟨⟨h0,h1⟩,h2⟩:=h
  have hj:=ep s (p+2)
  have hj2:=ep s (da s (p+2))
  have e:ed s p=yf s (p+1):=by simp[ed,h43]
  have e1:da s (p+1+1)=da s (p+2):=rfl
  have el:aR s p=(2+(da s (p+2) - (p+2)))+(da s (da s (p+2)) - da s (p+2)):=by
   simp only[aR,h43,if_true,cP,h0,h1,h2,e1];omega
  have hb:cX s L p (aR s p)=(cn s L (bt s (p+2))&&cn s L (bt s (da s (p+2)))):=by
   have x1:=qS (s:=s) (L:=L) (p:=p) (n:=2)
   have x2:=qS (s:=s) (L:=L) (p:=p) (n:=2+(da s (p+2) - (p+2)))
   rw[show p+(2+(da s (p+2) - (p+2)))=da s (p+2) by omega] at x2
   rw[el,x2,x1,ci,ci,Nat.add_zero,h43,hsm 43 (by decide),tO h0]
   simp[cX]
  rw[hb,e]
  simp only[yf]
  rw[iS hf,iS hf]
  simp only[Bool.not_and,e1]
 ·by_cases h45:bt s p=45
  ·simp only[h45,if_true,show ¬(45:Int)=43 by decide,if_false] at h
   simp only[gm,Bool.and_eq_true] at h
   obtain⟨h0,h1⟩:=h
   have hj:=ep s (p+2)
   have e:ed s p=v8 s (p+1):=by simp[ed,h45]
   have e1:da s (p+1+1)=da s (p+2):=rfl
   have el:aR s p=2+(da s (p+2) - (p+2)):=by
    simp only[aR,h45,if_true,show ¬(45:Int)=43 by decide,if_false,c9,h0,h1,e1];omega
   have hb:cX s L p (aR s p)=cn s L (bt s (p+2)):=by
    rw[el,qS,ci,ci,Nat.add_zero,h45,hsm 45 (by decide),tO h0]
    simp[cX]
   rw[hb,e]
   simp only[v8]
   rw[iS hf]
   simp[fe]
  ·have h46:bt s p=46:=by simpa [h43,h45] using h
   have e:ed s p=⟨3,0,0,0,0,0,0,0⟩:=by simp[ed,h43,h45]
   have el:aR s p=1:=by simp[aR,h46]
   rw[el,e,ci,Nat.add_zero,h46,hsm 46 (by decide)]
   simp[fe,cX]
theorem qJ {s:ByteArray}{L:List Nat}(hL:∀ p∈L,b9 s p=true):∀ n,n≤L.length→(∃ bs,cd s (L.take n) (fun _=>false)=some bs∧tZ s (L.take n) bs∧km s L n=true)∨(cd s (L.take n) (fun _=>false)=none∧km s L n=false)
 |0,_=>.inl ⟨_,rfl,fun n _=>rfl,rfl⟩
 |n+1,h=>by
  have hlt:n<L.length:=by omega
  have hok:=hL L[n] (List.getElem_mem hlt)
  have hgd:L.getD n 0=L[n]:=by simp[List.getD,hlt]
  have ht:L.take (n+1)=L.take n++[L[n]]:=List.take_succ_eq_append_getElem hlt
  rcases qJ hL n (by omega) with ⟨bs,h1,h2,h3⟩|⟨h1,h2⟩
  ·rw[jx hlt h1,jn,h3,Bool.true_and,pk,hgd]
   by_cases hc:aU (bt s L[n])=true
   ·rw[if_pos ((kO hok).mpr hc)]
    exact .inl ⟨_,rfl,by rw[ht];exact CR h2 hok hc,by simp[hc]⟩
   ·have hc':aU (bt s L[n])=false:=by simpa using hc
    rw[if_neg (fun e=>hc ((kO hok).mp e)),EF h2 hok hc',hc',Bool.false_or]
    cases hb:cX s (L.take n) L[n] (aH s L[n]) with
    |true=>exact .inl ⟨bs,rfl,by rw[ht];exact Bl h2 hc',rfl⟩
    |false=>exact .inr ⟨rfl,rfl⟩
  ·right
   constructor
   ·rw[ht,eV,h1];rfl
   ·rw[jn,h2];rfl
theorem At {s:ByteArray}{L K:List Nat}(hL:∀ p∈L,b9 s p=true)(hK:∀ p∈K,cU s p=true):mb s L K=!(j5 s L K):=by
 unfold mb j5
 rcases qJ hL L.length (Nat.le_refl _) with ⟨bs,h1,h2,h3⟩|⟨h1,h2⟩
 ·rw[List.take_of_length_le (Nat.le_refl _)] at h1 h2
  rw[h1,h3]
  simp only[Bool.true_and]
  unfold iy mi
  rw[Bool.eq_iff_iff]
  simp only[List.any_eq_true,Bool.not_eq_true',List.all_eq_false]
  constructor
  ·rintro⟨p,hp,hx⟩
   exact⟨p,hp,by rw[zd h2 (hK p hp)] at hx;simpa using hx⟩
  ·rintro⟨p,hp,hx⟩
   exact⟨p,hp,by rw[zd h2 (hK p hp)];simpa using hx⟩
 ·rw[List.take_of_length_le (Nat.le_refl _)] at h1
  rw[h1,h2];rfl
theorem lA {s:ByteArray}{i:Nat}{L:List Nat}{j:Nat}{ok:Bool}(h:jA s i L j ok):ok=true→∀ p∈L,b9 s p=true:=by
 refine jA.ind (M:=fun i L j ok=>ok=true→∀ p∈L,b9 s p=true) ?_ ?_ ?_ ?_ ?_ h
 ·intro _ _
  intro h;cases h
 ·intro _ _ _
  intro h;cases h
 ·intro _ _ h _
  intro _ p hp;rw[List.mem_singleton.mp hp];exact h
 ·intro _ _ _ _ _
  intro h;cases h
 ·intro _ _ _ _ _ h _ _ ih
  intro e p hp
  rcases List.mem_cons.mp hp with rfl|hp
  ·exact h
  ·exact ih e p hp
theorem y8 {s:ByteArray}{i:Nat}{L:List Nat}{j:Nat}{ok:Bool}(h:jY s i L j ok):ok=true→∀ p∈L,cU s p=true∧p+aR s p≤s.size:=by
 refine jY.ind (M:=fun i L j ok=>ok=true→∀ p∈L,cU s p=true∧p+aR s p≤s.size) ?_ ?_ ?_ ?_ ?_ h
 ·intro _ _
  intro h;cases h
 ·intro _ _ _
  intro h;cases h
 ·intro _ hi h _
  intro _ p hp;rw[List.mem_singleton.mp hp];exact⟨h,mI hi⟩
 ·intro _ _ _ _ _
  intro h;cases h
 ·intro _ _ _ _ hi h _ _ ih
  intro e p hp
  rcases List.mem_cons.mp hp with rfl|hp
  ·exact⟨h,mI hi⟩
  ·exact ih e p hp
theorem Fc {s:ByteArray}{i:Nat}{L:List Nat}{j:Nat}{ok:Bool}(h:jA s i L j ok):ok=true→i+L.length≤j:=by
 refine jA.ind (M:=fun i L j ok=>ok=true→i+L.length≤j) ?_ ?_ ?_ ?_ ?_ h
 ·intro _ _
  intro h;cases h
 ·intro _ _ _
  intro h;cases h
 ·intro _ _ _ _
  intro _;simp
 ·intro _ _ _ _ _
  intro h;cases h
 ·intro _ _ _ _ _ _ _ _ ih
  intro e;have:=ih e;simp;omega
theorem ER {s:ByteArray}{i:Nat}{L:List Nat}{j:Nat}{ok:Bool}(h:jY s i L j ok):ok=true→i+L.length≤j:=by
 refine jY.ind (M:=fun i L j ok=>ok=true→i+L.length≤j) ?_ ?_ ?_ ?_ ?_ h
 ·intro _ _
  intro h;cases h
 ·intro _ _ _
  intro h;cases h
 ·intro _ _ _ _
  intro _;simp
 ·intro _ _ _ _ _
  intro h;cases h
 ·intro _ _ _ _ _ _ _ _ ih
  intro e;have:=ih e;simp;omega
theorem pN {w w':World}{B:Nat}{s:ByteArray}{R:List ay}{xs:List Value}(h:fY w B s R xs)(hg:w.grownBy w' none):fY w' B s R xs:=ie hg (fun g hg=>by cases hg) R xs h
theorem oM {w w':World}{B:Nat}{s:ByteArray}{v:Value}{R:List ay}(h:jw w B s v R)(hg:w.grownBy w' none):jw w' B s v R:=by
 obtain⟨xs,h1,h2⟩:=h
 exact⟨xs,aq h1 hg (fun g hg=>by cases hg),pN h2 hg⟩
theorem gj.lens {s:ByteArray}{r:ay}(h:gj s r)(hs:s.size≤400):r.2.1.length≤400∧r.2.2.length≤400:=by
 have h1:=Fc h.conds rfl
 have h2:=ER h.acts rfl
 have h3:=mC h.acts rfl
 omega
theorem mO {s:ByteArray}{r:ay}(h:gj s r):iq s r.2.1 r.2.2=(decide (5<r.2.1.length)||decide (4<r.2.2.length)||decide (3<eu s r.2.1)):=by
 rw[iq,uo (lA h.conds rfl)]
theorem yM {s:ByteArray}{r:ay}(h:gj s r):mb s r.2.1 r.2.2=!(j5 s r.2.1 r.2.2):=At (lA h.conds rfl) (fun p hp=>(y8 h.acts rfl p hp).1)
def D3 (w:World)(s:ByteArray)(x p:Int)(o:Option (List ay))(e:Ending)(w':World):Prop:=
 ∃ v,e=.returned (.tuple #[v,.int .i64 x,.int .i64 p])∧(∀ R,o=some R→jw w' w.heap.size s v R)∧(o=none→v=.slice none 0 0)∧w.grownBy w' none
theorem kS (s:ByteArray)(R:List ay)(w:World)(x p:Int)(o:Option (List ay))(hs:s.size≤400)(hR:kP s 0 R s.size true)
  (o1:Option Nat) (h1:bJ (iZ s R) R.length o1) (o2:Option Nat) (h2:bJ (jL s R) R.length o2)
  (e1:∀ m,o1=some m→x=3∧p=m∧o=none) (e2:∀ m,o1=none→o2=some m→x=4∧p=m∧o=none) (e3:o1=none→o2=none→x=0∧p=0∧o=some R) :
  Calls Tryz.prog 34 #[.string s] w (D3 w s x p o):=by
 have hall:=(tA hR rfl).2
 have hlen:=pl hR
 have HALL:=af hall
 have HPL:=af (fun W=>sr s W hs)
 have HRD:=af (fun W=>zT s R W hs hR)
 have HGO:=af ((pz hR).1 rfl)
 have H1:=af h1
 have H2:=af h2
 have E1:=af e1
 have E2:=af e2
 have E3:=af e3
 clear hall hR h1 h2 e1 e2 e3
 go_enter Tryz.func34,Tryz.ntmps34
 go_wp2_with fail
 go_at_call 70
 refine (HPL.out _).mono ?_
 rintro e w' ⟨pp,rfl,hp,rfl⟩
 have hpp:=(xM HGO.out.1 HGO.out.2 hp).1
 subst hpp
 clear hp HPL HGO
 go_wp2_with fail
 go_at_call 71
 refine (HRD.out _).mono ?_
 rintro e w1 ⟨v,rfl,⟨xs,hown,hpar⟩,hg1⟩
 obtain⟨a,m,c,rfl⟩:=an hown
 have em:=ar hown
 subst em
 have HP:=af hpar
 clear HRD hpar
 go_wp2_with fail
 go_loopw [7] (fun t wr=>∃ k:Nat,k≤R.length∧t=.int .i64 k∧w1.grownBy wr none∧∀ j,j<k→¬iZ s R j) (fun t _=>R.length - (intOf t).toNat)
 case atStart=>exact⟨0,Nat.zero_le _,rfl,ag _ _,fun j hj=>by omega⟩
 case round=>
  obtain⟨k,hk,rfl,hg,hno⟩:=hrel
  have HN:=af hno
  clear hno
  by_cases hlt:k<R.length
  ·obtain⟨a1,m1,c1,a2,m2,c2,x0,x1,x2,q1,q2⟩:=iO R xs HP.out k hlt
   obtain⟨g,rfl,_,hgb,hgl,hcell⟩:=aC hown (by omega)
   have d0:=hg.cell (hcell _ _ x0) (by simp)
   have d1:=hg.cell (hcell _ _ x1) (by simp)
   have d2:=hg.cell (hcell _ _ x2) (by simp)
   have hok:=HALL.out R[k] (List.getElem_mem hlt)
   have em1:=ar q1
   have em2:=ar q2
   subst em1 em2
   have q1':=aq q1 hg (fun g hg=>by cases hg)
   have HPT:=af (tB s R[k].2.1 (bt s R[k].1 - 48) a1 a2 _ c1 R[k].2.2.length c2 w.heap.size wr (lA hok.conds rfl) (hok.lens hs).1 q1')
   have hpc:=mV s R[k].2.1
   have hl1:=(hok.lens hs).1
   have hl2:=(hok.lens hs).2
   have HB:Hid (iZ s R k↔(9≤k∨5<R[k].2.1.length∨4<R[k].2.2.length∨3<eu s R[k].2.1)):=af (by
    constructor
    ·rintro⟨_,h|h⟩
     ·exact .inl h
     ·rw[mO hok] at h;simp at h;rcases h with (h|h)|h
      ·exact .inr (.inl h)
      ·exact .inr (.inr (.inl h))
      ·exact .inr (.inr (.inr h))
    ·intro h
     refine⟨hlt,?_⟩
     rcases h with h|h|h|h
     ·exact .inl h
     ·right;rw[mO hok];simp[h]
     ·right;rw[mO hok];simp[h]
     ·right;rw[mO hok];simp[h])
   clear hcell x0 x1 x2 q1 q2 q1' hok
   obtain⟨lc,hlc⟩:∃ lc,lc=R[k].2.1.length:=⟨_,rfl⟩
   obtain⟨la,hla⟩:∃ la,la=R[k].2.2.length:=⟨_,rfl⟩
   obtain⟨np,hnp⟩:∃ np,np=eu s R[k].2.1:=⟨_,rfl⟩
   obtain⟨wt,hwt⟩:∃ wt,wt=bt s R[k].1 - 48:=⟨_,rfl⟩
   rw[←hlc] at HPT HB d1 hpc hl1
   rw[←hla] at HPT HB d2 hl2
   rw[←hnp] at HPT HB hpc
   rw[←hwt] at HPT d0
   clear hlc hla hnp hwt
   by_cases hb:9≤k∨5<lc∨4<la∨3<np
   ·have HO:Hid (x=3∧p=k∧o=none):=af (by
     have hf:bJ (iZ s R) R.length (some k):=⟨hlt,HB.out.mpr hb,HN.out⟩
     exact E1.out k (bJ.unique H1.out hf))
    obtain⟨rfl,rfl,rfl⟩:=HO.out
    go_wp2_with fail
    go_at_call 72
    refine HPT.out.mono ?_
    rintro e w2 ⟨rfl,hg2⟩
    have d1':=hg2.cell d1 (by simp)
    have d2':=hg2.cell d2 (by simp)
    by_cases z1:5<lc
    ·go_wp2
     go_ret3
     exact⟨_,rfl,(fun R h=>by cases h),(fun _=>rfl),ae hg1 (ae hg hg2)⟩
    ·by_cases z2:3<np
     ·go_wp2
      go_ret3
      exact⟨_,rfl,(fun R h=>by cases h),(fun _=>rfl),ae hg1 (ae hg hg2)⟩
     ·by_cases z3:4<la
      ·go_wp2
       go_ret3
       exact⟨_,rfl,(fun R h=>by cases h),(fun _=>rfl),ae hg1 (ae hg hg2)⟩
      ·have z4:9≤k:=by omega
       go_wp2
       go_ret3
       exact⟨_,rfl,(fun R h=>by cases h),(fun _=>rfl),ae hg1 (ae hg hg2)⟩
   ·have HNB:Hid (¬iZ s R k):=af (fun h=>hb (HB.out.mp h))
    have z1:¬5<lc:=by omega
    have z2:¬3<np:=by omega
    have z3:¬4<la:=by omega
    have z4:¬9≤k:=by omega
    clear hb
    go_wp2_with fail
    go_at_call 72
    refine HPT.out.mono ?_
    rintro e w2 ⟨rfl,hg2⟩
    have d1':=hg2.cell d1 (by simp)
    have d2':=hg2.cell d2 (by simp)
    have hg':=ae hg hg2
    clear hg hg2 d0 d1 d2
    go_wp2
    go_roundw
    case rel=>
     refine⟨k+1,by omega,by go_num,hg',?_⟩
     intro j hj
     by_cases ej:j=k
     ·rw[ej];exact HNB.out
     ·exact HN.out j (by omega)
    case measure=>simp[intOf];omega
  ·have HO1:Hid (o1=none):=af (bJ.unique H1.out (show bJ (iZ s R) R.length none from fun j hj=>HN.out j (by omega)))
   clear HN
   go_wp2_with fail
   go_loopw [9] (fun t wr=>∃ k:Nat,k≤R.length∧t=.int .i64 k∧w1.grownBy wr none∧∀ j,j<k→¬jL s R j) (fun t _=>R.length - (intOf t).toNat)
   case atStart=>exact⟨0,Nat.zero_le _,rfl,hg,fun j hj=>by omega⟩
   case round=>
    clear hg
    obtain⟨k',hk',rfl,hg,hno⟩:=hrel
    have HN:=af hno
    clear hno
    by_cases hlt':k'<R.length
    ·obtain⟨a1,m1,c1,a2,m2,c2,x0,x1,x2,q1,q2⟩:=iO R xs HP.out k' hlt'
     obtain⟨g,rfl,_,hgb,hgl,hcell⟩:=aC hown (by omega)
     have d0:=hg.cell (hcell _ _ x0) (by simp)
     have d1:=hg.cell (hcell _ _ x1) (by simp)
     have d2:=hg.cell (hcell _ _ x2) (by simp)
     have hok:=HALL.out R[k'] (List.getElem_mem hlt')
     have q1':=aq q1 hg (fun g hg=>by cases hg)
     have q2':=aq q2 hg (fun g hg=>by cases hg)
     have HWH:=af (zV s R[k'].2.1 R[k'].2.2 (bt s R[k'].1 - 48) a1 a2 m1 c1 m2 c2 w.heap.size wr hs (lA hok.conds rfl) (fun p hp=>(y8 hok.acts rfl p hp).2) (hok.lens hs).1 (hok.lens hs).2 q1' q2')
     have HB:Hid (jL s R k'↔j5 s R[k'].2.1 R[k'].2.2=false):=af (by
      constructor
      ·rintro⟨_,h⟩;rw[yM hok] at h;simpa using h
      ·intro h;exact⟨hlt',by rw[yM hok,h];rfl⟩)
     clear hcell x0 x1 x2 q1 q2 q1' q2' hok
     obtain⟨bb,hbb⟩:∃ bb,bb=j5 s R[k'].2.1 R[k'].2.2:=⟨_,rfl⟩
     rw[←hbb] at HWH HB
     clear hbb
     cases bb with
     |false=>
      have HO:Hid (x=4∧p=k'∧o=none):=af (by
       have hf:bJ (jL s R) R.length (some k'):=⟨hlt',HB.out.mpr rfl,HN.out⟩
       exact E2.out k' HO1.out (bJ.unique H2.out hf))
      obtain⟨rfl,rfl,rfl⟩:=HO.out
      go_wp2_with fail
      go_at_call 73
      refine HWH.out.mono ?_
      rintro e w2 ⟨rfl,hg2⟩
      go_wp2
      go_ret3
      exact⟨_,rfl,(fun R h=>by cases h),(fun _=>rfl),ae hg1 (ae hg hg2)⟩
     |true=>
      have HNB:Hid (¬jL s R k'):=af (fun h=>by have:=HB.out.mp h;cases this)
      go_wp2_with fail
      go_at_call 73
      refine HWH.out.mono ?_
      rintro e w2 ⟨rfl,hg2⟩
      have hg':=ae hg hg2
      clear hg hg2 d0 d1 d2
      go_wp2
      go_roundw
      case rel=>
       refine⟨k'+1,by omega,by go_num,hg',?_⟩
       intro j hj
       by_cases ej:j=k'
       ·rw[ej];exact HNB.out
       ·exact HN.out j (by omega)
      case measure=>simp[intOf];omega
    ·have HO2:Hid (o2=none):=af (bJ.unique H2.out (show bJ (jL s R) R.length none from fun j hj=>HN.out j (by omega)))
     obtain⟨rfl,rfl,rfl⟩:=E3.out HO1.out HO2.out
     go_wp2
     go_ret3
     exact⟨_,rfl,(fun R' h=>by cases h;exact oM ⟨xs,hown,HP.out⟩ hg),(fun h=>by cases h),ae hg1 hg⟩
theorem kB (bad:Nat→Prop):∀ n,∃ o,bJ bad n o
 |0=>⟨none,fun j hj=>by omega⟩
 |n+1=>by
  obtain⟨o,h⟩:=kB bad n
  cases o with
  |some m=>exact⟨some m,by have h1:=h.1;omega,h.2.1,h.2.2⟩
  |none=>
   by_cases hb:bad n
   ·exact⟨some n,by omega,hb,h⟩
   ·refine⟨none,fun j hj=>?_⟩
    by_cases e:j=n
    ·rw[e];exact hb
    ·exact h j (by omega)
theorem qL {s:ByteArray}{R:List ay}{j:Nat}(h:kP s 0 R j true):j=s.size:=by
 obtain⟨⟨n,hn,hq⟩,hj⟩:=(pz h).1 rfl
 have:=ld s n (by rw[hq];omega)
 omega
theorem me (s:ByteArray)(w:World)(x p:Int)(o:Option (List ay))(hs:s.size≤maxLen)(h:cE s x p o):
  Calls Tryz.prog 34 #[.string s] w (D3 w s x p o):=by
 unfold maxLen at hs
 rcases h with ⟨h4,rfl,rfl,rfl⟩|⟨R,j,h4,hr,rfl,rfl,rfl⟩|⟨R,j,m,h4,hr,hb,rfl,rfl,rfl⟩|⟨R,j,m,h4,hr,hb,hu,rfl,rfl,rfl⟩|⟨R,j,h4,hr,hb,hu,rfl,rfl,rfl⟩
 ·go_enter Tryz.func34,Tryz.ntmps34
  go_wp2
  go_ret3
  exact⟨_,rfl,(fun R h=>by cases h),(fun _=>rfl),ag _ _⟩
 ·have HPL:=af (fun W=>sr s W h4)
  have HST:=af ((pz hr).2 rfl)
  clear hr
  go_enter Tryz.func34,Tryz.ntmps34
  go_wp2_with fail
  go_at_call 70
  refine (HPL.out _).mono ?_
  rintro e w' ⟨pp,rfl,hp,rfl⟩
  have hpp:=yh HST.out hp
  subst hpp
  clear hp
  go_wp2
  go_ret3
  exact⟨_,rfl,(fun R h=>by cases h),(fun _=>rfl),ag _ _⟩
 ·have e:=qL hr
  subst e
  obtain⟨o2,h2⟩:=kB (jL s R) R.length
  exact kS s R w _ _ _ h4 hr (some m) hb o2 h2 (fun m' e=>by cases e;exact⟨rfl,rfl,rfl⟩) (fun m' e=>by cases e) (fun e=>by cases e)
 ·have e:=qL hr
  subst e
  exact kS s R w _ _ _ h4 hr none hb (some m) hu (fun m' e=>by cases e) (fun m' _ e=>by cases e;exact⟨rfl,rfl,rfl⟩) (fun _ e=>by cases e)
 ·have e:=qL hr
  subst e
  exact kS s R w _ _ _ h4 hr none hb none hu (fun m' e=>by cases e) (fun m' _ e=>by cases e) (fun _ _=>⟨rfl,rfl,rfl⟩)
def pP (v:Value)(room:Int):Array Value:=#[v,.int .i64 room,.slice none 0 0,.slice none 0 0,.slice none 0 0,.int .i64 0]
theorem AB (s:ByteArray)(room:Int)(w:World)(x p:Int)(o:Option (List ay))(hs:s.size≤maxLen)(h:cE s x p o)(h1:1≤x):
  Calls Tryz.prog 12 #[.string s,.int .i64 room] w fun e w'=>e=.returned (.tuple #[.pointer none,.int .i64 x,.int .i64 p])∧w.grownBy w' none:=by
 have hx0:(x != 0)=true:=by simp;omega
 have HR:=af (fun W=>me s W x p o hs h)
 clear h
 go_enter Tryz.func12,Tryz.ntmps12
 go_wp2_with fail
 go_at_call 34
 refine (HR.out _).mono ?_
 rintro e w1 ⟨v,rfl,ho,hn,hg⟩
 clear ho hn
 go_wp2
 go_ret3
 exact⟨rfl,hg⟩
theorem xT (s:ByteArray)(room:Int)(w:World)(p:Int)(o:Option (List ay))(hs:s.size≤maxLen)(h:cE s 0 p o)(h1:room<1∨999<room):
  Calls Tryz.prog 12 #[.string s,.int .i64 room] w fun e w'=>e=.returned (.tuple #[.pointer none,.int .i64 5,.int .i64 0])∧w.grownBy w' none:=by
 have HR:=af (fun W=>me s W 0 p o hs h)
 clear h
 rcases h1 with h1|h1
 all_goals
  go_enter Tryz.func12,Tryz.ntmps12
  go_wp2_with fail
  go_at_call 34
  refine (HR.out _).mono ?_
  rintro e w1 ⟨v,rfl,ho,hn,hg⟩
  clear ho hn
  go_wp2
  go_ret3
  exact⟨rfl,hg⟩
theorem CX (s:ByteArray)(room:Int)(w:World)(p:Int)(R:List ay)(hs:s.size≤maxLen)(h:cE s 0 p (some R))(h1:1≤room)(h2:room≤999):
  Calls Tryz.prog 12 #[.string s,.int .i64 room] w fun e w'=>∃ g v,e=.returned (.tuple #[.pointer (some ⟨g,0,none⟩),.int .i64 0,.int .i64 0])∧w.heap.size≤g∧w'.heap[g]?=some (.cells (pP v room) 45 (0,0))∧jw w' w.heap.size s v R∧w.grownBy w' none:=by
 have HR:=af (fun W=>me s W 0 p (some R) hs h)
 clear h
 go_enter Tryz.func12,Tryz.ntmps12
 go_wp2_with fail
 go_at_call 34
 refine (HR.out _).mono ?_
 rintro e w1 ⟨v,rfl,ho,hn,hg⟩
 have HO:=af (ho R rfl)
 obtain⟨xs,hown,hpar⟩:=ho R rfl
 obtain⟨a,m,c,rfl⟩:=an hown
 have hsz:=hg.size
 clear ho hn hown hpar
 go_wp2
 go_ret3
 exact⟨w1.heap.size,_,rfl,hsz,heap_alloc_new w1 _,oM HO.out (World.grownBy_alloc w1 _ none),ab hg _⟩
end Go.Proofs.YthlhbjnkohinmabGreat
