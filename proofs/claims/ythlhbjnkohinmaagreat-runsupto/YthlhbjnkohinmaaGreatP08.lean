import Derived.Test.YthlhbjnkohinmaaGreatP07
import Derived.Test.YthlhbjnkohinmaaGreatP05
namespace Go.Proofs.YthlhbjnkohinmaaGreat
set_option maxRecDepth 100000
set_option maxHeartbeats 8000000
open Go.RowKit
theorem DF {w:World}{base:Nat}{e:TypeId}{a:Option Addr}{m c n i:Nat}{xs:List Value}(h:w.ownsRow base e 1 (.slice a m c) n xs)(hi:i≤n):w.ownsRow base e 1 (.slice a i c) i (xs.take i):=by
 obtain⟨h1,h2⟩:=h
 refine⟨by simp[h1];omega,?_⟩
 rcases h2 with ⟨hv,h0⟩|⟨g,cap,cur,hv,hb,hh,hn,hm,hc,ht⟩
 ·cases hv
  left;exact⟨by rw[show i=0 by omega],by omega⟩
 ·cases hv
  right
  refine⟨g,_,cur,rfl,hb,hh,by omega,hm,hc,?_⟩
  rw[←ht,List.take_take]
  congr 1
  omega
theorem tL {w:World}{base:Nat}{e:TypeId}{size:Nat}{a:Option Addr}{m c n:Nat}{xs:List Value}(h:w.ownsRow base e size (.slice a m c) n xs):n≤c:=by
 rcases h.2 with ⟨hv,h0⟩|⟨g,cap,cur,hv,hb,hh,hn,_⟩
 ·omega
 ·cases hv;exact hn
def o9 (s:ByteArray)(L:List Nat)(k:Nat):Bool:=aQ (bt s (L.getD k 0))||cW s (L.take k) (L.getD k 0) (aG s (L.getD k 0))
def ke (s:ByteArray)(L:List Nat)(n:Nat):Bool:=(List.range n).all fun k=>o9 s L k
theorem jk (s:ByteArray)(L:List Nat)(n:Nat):ke s L (n+1)=(ke s L n&&o9 s L n):=by
 unfold ke;rw[List.range_succ,List.all_append];simp
theorem sK {s:ByteArray}{L:List Nat}{n m:Nat}(h:ke s L n=false)(hm:n≤m):ke s L m=false:=by
 induction m with
 |zero=>rw[show n=0 by omega] at h;exact h
 |succ m ih=>
  by_cases e:n=m+1
  ·rw[←e];exact h
  ·rw[jk,ih (by omega)];rfl
def l4 (s:ByteArray)(L K:List Nat):Bool:=K.all fun p=>cW s L p (aR s p)
def km (s:ByteArray)(L K:List Nat):Bool:=ke s L L.length&&l4 s L K
theorem Ax (s:ByteArray)(L K:List Nat)(x:Int)(a a2:Option Addr)(m c m2 c2 B:Nat)(w:World)(hs:s.size≤400)(hL:∀ p∈L,b7 s p=true)(hK:∀ p∈K,p+aR s p≤s.size)(hlen:L.length≤400)(hlenK:K.length≤400)
  (h:w.ownsRow B 9 1 (.slice a m c) L.length (dK s L)) (h2:w.ownsRow B 9 1 (.slice a2 m2 c2) K.length (gz s K)) :
  Calls Tryz.prog 79 #[.agg #[.int .i64 x,.slice a m c,.slice a2 m2 c2]] w fun e w'=>e=.returned (.bool (km s L K))∧w.grownBy w' none:=by
 have e1:=ar h
 have e2:=ar h2
 subst e1 e2
 have HL:=af hL
 have HK:=af hK
 clear hL hK
 obtain⟨q,hq⟩:∃ q,q=km s L K:=⟨_,rfl⟩
 rw[←hq]
 have HQ:=af hq
 clear hq
 have hw0:∃ w0,w0=w.alloc (.cells #[.int .i64 x,.slice a L.length c,.slice a2 K.length c2] 155):=⟨_,rfl⟩
 obtain⟨w0,hw0⟩:=hw0
 have h':w0.ownsRow B 9 1 (.slice a L.length c) L.length (dK s L):=by rw[hw0];exact h.alloc _
 have h2':w0.ownsRow B 9 1 (.slice a2 K.length c2) K.length (gz s K):=by rw[hw0];exact h2.alloc _
 have d1:w0.cell? ⟨w.heap.size,1,none⟩=some (.slice a L.length c):=by rw[hw0];simp[go_sem]
 have d2:w0.cell? ⟨w.heap.size,2,none⟩=some (.slice a2 K.length c2):=by rw[hw0];simp[go_sem]
 have HG0:Hid (w.grownBy w0 none):=af (by rw[hw0];exact ab (ag _ _) _)
 have HW0:=af hw0
 have D1:=af d1
 have D2:=af d2
 clear hw0 h h2
 go_enter Tryz.func79,Tryz.ntmps79
 go_wp2_with fail
 rw[←HW0.out]
 clear HW0
 go_loopw [3] (fun t wr=>∃ (k:Nat),k≤L.length∧t=.int .i64 k∧wr.heap=w0.heap∧w.grownBy wr none∧ke s L k=true) (fun t _=>L.length - (intOf t).toNat)
 case atStart=>exact⟨0,Nat.zero_le _,rfl,rfl,HG0.out,rfl⟩
 case round=>
  obtain⟨k,hk,rfl,hhp,hgr,hno⟩:=hrel
  have HN:=af hno
  have HHP:=af hhp
  have d1:=(iD hhp _).trans d1
  have d2:=(iD hhp _).trans d2
  clear hno hhp
  by_cases hlt:k<L.length
  ·obtain⟨g,rfl,_,hgb,hgl,hcell⟩:=aC h' (by omega)
   have hok:=HL.out L[k] (List.getElem_mem hlt)
   obtain⟨p3,ps,p4⟩:=tN hok
   have hce:w0.cell? ⟨g,k,none⟩=some (.string (s.extract L[k] (L[k]+aG s L[k]))):=hcell k _ (by simp[dK,hlt])
   replace hce:=(iD HHP.out _).trans hce
   clear hcell
   have hpre:=DF h' (i:=k) (by omega)
   rw[show (dK s L).take k=dK s (L.take k) by simp[dK,List.map_take]] at hpre
   have hlk:(L.take k).length=k:=by simp;omega
   have HBD:Hid (∀ W:World,W.heap=w0.heap→Calls Tryz.prog 108 #[.slice (some ⟨g,0,none⟩) k c,.string (s.extract L[k] (L[k]+aG s L[k]))] W fun e w'=>e=.returned (.bool (cW s (L.take k) L[k] (aG s L[k])))∧w'=W):=af (fun W hW=>
    (sm s (L.take k) L[k] (aG s L[k]) (some ⟨g,0,none⟩) k c B W ps hs (fun p hp=>HL.out p (List.mem_of_mem_take hp)) (by omega) (by rw[hlk];exact dp hpre hW)).mono fun _ _ ⟨h1,h2⟩=>⟨h1,h2.symm⟩)
   have HT:=af (jk s L k)
   have hgd:L.getD k 0=L[k]:=by simp[List.getD,hlt]
   rw[HN.out,Bool.true_and,o9,hgd] at HT
   obtain⟨u,hu⟩:∃ u,u=s.extract L[k] (L[k]+aG s L[k]):=⟨_,rfl⟩
   rw[←hu] at hce HBD
   have v0:bt u 0=bt s L[k]:=by rw[hu,kq ps (by omega)];rfl
   have u0:0<u.size:=by rw[hu,db ps];omega
   have HPT:=af (fun W=>ie u W u0)
   rw[v0] at HPT
   clear v0 hu hok p3 ps p4 hpre hgd u0 hlk
   obtain⟨bb,hbb⟩:∃ bb,bb=cW s (L.take k) L[k] (aG s L[k]):=⟨_,rfl⟩
   obtain⟨cc,hcc⟩:∃ cc,cc=aQ (bt s L[k]):=⟨_,rfl⟩
   rw[←hbb] at HBD HT
   rw[←hcc] at HPT HT
   clear hbb hcc
   go_wp2_with (go_at_call 107;refine (HPT.out _).mono ?_;rintro e w' ⟨rfl,rfl⟩)
   have hcap:=tL h'
   have hkc:k≤c:=by omega
   have hki:(k:Int)≤c:=by omega
   go_quiet ((go_at_call 108;exact Calls.quiet_of_same (HBD.out _ HHP.out)))
   cases cc with
   |true=>
    go_wp2
    go_roundw
    case rel=>exact⟨k+1,by omega,by go_num,HHP.out,al hgr _,by rw[HT.out];rfl⟩
    case measure=>simp[intOf];omega
   |false=>
    cases bb with
    |true=>
     go_wp2
     go_roundw
     case rel=>exact⟨k+1,by omega,by go_num,HHP.out,al hgr _,by rw[HT.out];rfl⟩
     case measure=>simp[intOf];omega
    |false=>
     have HU:Hid (q=false):=af (by rw[HQ.out,km,sK (n:=k+1) (by rw[HT.out];rfl) (by omega)];rfl)
     go_wp2
     go_ret
     exact⟨c7 HU.out.symm,al hgr _⟩
  ·have HN':Hid (q=l4 s L K):=af (by
    rw[HQ.out,km]
    have:=HN.out
    rw[show k=L.length by omega] at this
    rw[this];rfl)
   clear HN
   go_wp2_with fail
   go_loopw [6] (fun t wr=>∃ (k:Nat),k≤K.length∧t=.int .i64 k∧wr.heap=w0.heap∧w.grownBy wr none∧l4 s L (K.take k)=true) (fun t _=>K.length - (intOf t).toNat)
   case atStart=>exact⟨0,Nat.zero_le _,rfl,HHP.out,hgr,rfl⟩
   case round=>
    clear HHP hgr d1 d2
    obtain⟨k',hk',rfl,hhp,hgr,hno⟩:=hrel
    have HN:=af hno
    have HHP:=af hhp
    have d1:=(iD hhp _).trans D1.out
    have d2:=(iD hhp _).trans D2.out
    clear hno hhp
    by_cases hlt':k'<K.length
    ·obtain⟨g,rfl,_,hgb,hgl,hcell⟩:=aC h2' (by omega)
     have ps:=HK.out K[k'] (List.getElem_mem hlt')
     have hce:w0.cell? ⟨g,k',none⟩=some (.string (s.extract K[k'] (K[k']+aR s K[k']))):=hcell k' _ (by simp[gz,hlt'])
     replace hce:=(iD HHP.out _).trans hce
     clear hcell
     have HBD:Hid (∀ W:World,W.heap=w0.heap→Calls Tryz.prog 108 #[.slice a L.length c,.string (s.extract K[k'] (K[k']+aR s K[k']))] W fun e w'=>e=.returned (.bool (cW s L K[k'] (aR s K[k'])))∧w'=W):=af (fun W hW=>
      (sm s L K[k'] (aR s K[k']) a L.length c B W ps hs HL.out hlen (dp h' hW)).mono fun _ _ ⟨h1,h2⟩=>⟨h1,h2.symm⟩)
     have HT:Hid (l4 s L (K.take (k'+1))=cW s L K[k'] (aR s K[k'])):=af (by
      have:=HN.out
      unfold l4 at this ⊢
      rw[List.take_succ_eq_append_getElem hlt',List.all_append,this];simp)
     obtain⟨u,hu⟩:∃ u,u=s.extract K[k'] (K[k']+aR s K[k']):=⟨_,rfl⟩
     rw[←hu] at hce HBD
     obtain⟨bb,hbb⟩:∃ bb,bb=cW s L K[k'] (aR s K[k']):=⟨_,rfl⟩
     rw[←hbb] at HBD HT
     clear hu hbb ps
     go_wp2_with fail
     go_quiet ((go_at_call 108;exact Calls.quiet_of_same (HBD.out _ HHP.out)))
     cases bb with
     |true=>
      go_wp2
      go_roundw
      case rel=>exact⟨k'+1,by omega,by go_num,HHP.out,al hgr _,HT.out⟩
      case measure=>simp[intOf];omega
     |false=>
      have HU:Hid (q=false):=af (by
       rw[HN'.out]
       have:=HT.out
       unfold l4 at this ⊢
       rw[←List.take_append_drop (k'+1) K,List.all_append,this];rfl)
      go_wp2
      go_ret
      exact⟨c7 HU.out.symm,al hgr _⟩
    ·have HU:Hid (q=true):=af (by
      rw[HN'.out]
      have:=HN.out
      rwa [List.take_of_length_le (by omega)] at this)
     go_wp2
     go_ret
     exact⟨c7 HU.out.symm,hgr⟩
theorem zd {c:Int}(h:ew c=true):dx c=2∧dD c=c - 119∧119≤c∧c≤122:=by
 have h1:119≤c∧c≤122:=by simpa [ew] using h
 have h2:bM c=false:=by simp[bM];omega
 exact⟨by simp[dx,h,h2],by simp[dD,h,h2],h1.1,h1.2⟩
theorem so {c:Int}(h:ew c=false):¬dx c=2:=by
 unfold dx
 split
 ·omega
 ·simp[h]
def uV (s:ByteArray)(L:List Nat)(bs:Nat→Bool):Prop:=∀ n:Nat,n<4→bs n=fw s L (119+n)
theorem za (bs:Nat→Bool)(c:Int)(n:Nat)(hn:n<4):ja bs (dx c) (dD c) n=(bs n||(c==119+(n:Int))):=by
 unfold ja
 cases hl:ew c with
 |true=>
  obtain⟨e1,e2,h1,h2⟩:=zd hl
  rw[e1,e2]
  simp only[decide_true,Bool.true_and]
  congr 1
  rw[Bool.eq_iff_iff]
  simp only[decide_eq_true_eq,beq_iff_eq]
  omega
 |false=>
  have:=so hl
  have h1:¬(119≤c∧c≤122):=by simpa [ew] using hl
  have h2:(c==119+(n:Int))=false:=by simp;omega
  simp[this,h2]
theorem iZ {s:ByteArray}{L:List Nat}{bs:Nat→Bool}(hf:uV s L bs)(c:Int):e9 bs (dx c) (dD c)=!(ci s L c):=by
 unfold e9 ci
 cases hl:ew c with
 |true=>
  obtain⟨e1,e2,h1,h2⟩:=zd hl
  rw[e1,e2,hf (c - 119).toNat (by omega),show (119:Int)+((c - 119).toNat:Int)=c by omega]
  simp
 |false=>
  simp[so hl]
theorem kW {s:ByteArray}{p:Nat}(_h:b7 s p=true):(dg s p).k=1↔aQ (bt s p)=true:=by
 unfold dg
 by_cases h33:bt s p=33
 ·simp only[h33,if_true,ms]
  constructor
  ·intro h;omega
  ·intro h;exact absurd h (by decide)
 ·by_cases hc:aQ (bt s p)=true
  ·simp[h33,hc,ms]
  ·simp[h33,hc,qW]
theorem vt {s:ByteArray}{L:List Nat}(h:∀ p∈L,b7 s p=true):bL s L=es s L:=by
 unfold bL es
 congr 1
 apply List.filter_congr
 intro p hp
 have:=kW (h p hp)
 rw[Bool.eq_iff_iff]
 simpa using this
theorem Cn {s:ByteArray}{L:List Nat}{bs:Nat→Bool}{p:Nat}(hf:uV s L bs)(_h:b7 s p=true)(hc:aQ (bt s p)=true):uV s (L++[p]) (uP s p bs):=by
 intro n hn
 have h33:¬bt s p=33:=by intro e;rw[e] at hc;exact absurd hc (by decide)
 have e:dg s p=ms 1 s p:=by simp[dg,h33,hc]
 unfold uP
 rw[e]
 simp only[ms]
 rw[za _ _ n hn,za _ _ n hn,hf n hn]
 unfold fw
 rw[List.any_append]
 simp[hc,Bool.or_assoc]
theorem AP {s:ByteArray}{L:List Nat}{bs:Nat→Bool}{p:Nat}(hf:uV s L bs)(hc:aQ (bt s p)=false):uV s (L++[p]) bs:=by
 intro n hn
 rw[hf n hn]
 unfold fw
 rw[List.any_append]
 simp[hc]
theorem sZ {s:ByteArray}{L:List Nat}{c:Int}(h:aQ c=true):ci s L c=true:=by
 have h1:97≤c∧c≤102:=by simpa [aQ] using h
 have:ew c=false:=by simp[ew];omega
 simp[ci,this]
theorem E7 {s:ByteArray}{L:List Nat}{c:Int}(h:gH c=true):ci s L c=true:=by
 have h1:(c=60∨c=61)∨c=35:=by simpa [gH] using h
 have:ew c=false:=by simp[ew];omega
 simp[ci,this]
theorem Ew {s:ByteArray}{L:List Nat}{c:Int}(h:ff c=true):ci s L c=true:=by
 have h1:c=94∨c=126:=by simpa [ff] using h
 have:ew c=false:=by simp[ew];omega
 simp[ci,this]
theorem Ge (s:ByteArray)(L:List Nat)(p:Nat):cW s L p 3=(ci s L (bt s p)&&ci s L (bt s (p+1))&&ci s L (bt s (p+2))):=by
 rw[ch,ch,ch];simp[cW]
theorem Gf (s:ByteArray)(L:List Nat)(p:Nat):cW s L p 4=(ci s L (bt s p)&&ci s L (bt s (p+1))&&ci s L (bt s (p+2))&&ci s L (bt s (p+3))):=by
 rw[ch,Ge]
theorem EH {s:ByteArray}{i:Nat}(h:bx s i=3):aQ (bt s i)=true:=by
 unfold bx at h;split at h
 ·assumption
 ·omega
theorem Et {s:ByteArray}{i:Nat}(h:bT s i=3):gH (bt s (i+1))=true:=by
 unfold bT at h;split at h
 ·split at h
  ·assumption
  ·omega
 ·omega
theorem EO {s:ByteArray}{L:List Nat}{bs:Nat→Bool}{p:Nat}(hf:uV s L bs)(h:b7 s p=true)(hc:aQ (bt s p)=false):im s p bs=!(cW s L p (aG s p)):=by
 unfold im
 by_cases h33:bt s p=33
 ·have hp:bx s (p+1)=3:=by simpa [b7,h33] using h
  have e:dg s p=ms 2 s (p+1):=by simp[dg,h33]
  have el:aG s p=4:=by simp[aG,h33,hp]
  have h0:ci s L 33=true:=by simp[ci,show ew 33=false by decide]
  rw[e,el,Gf]
  simp only[ms]
  rw[iZ hf,iZ hf,h33,h0,sZ (EH hp)]
  simp[show p+1+1=p+2 by omega,show p+1+2=p+3 by omega,Bool.not_and]
 ·have hp:bT s p=3:=by simpa [b7,h33,hc] using h
  have e:dg s p=qW s p:=by simp[dg,h33,hc]
  have el:aG s p=3:=by simp[aG,h33,hc,hp]
  rw[e,el,Ge]
  simp only[qW]
  rw[iZ hf,iZ hf,E7 (Et hp)]
  simp[Bool.not_and]
theorem pL {s:ByteArray}{L:List Nat}{p n:Nat}:cW s L p (n+(da s (p+n) - (p+n)))=(cW s L p n&&ci s L (bt s (p+n))):=by
 unfold da
 split
 ·rename_i ht
  rw[show n+(p+n+2 - (p+n))=n+1+1 by omega,ch,ch,show p+(n+1)=p+n+1 by omega,Ew ht,Bool.and_true]
 ·rw[show n+(p+n+1 - (p+n))=n+1 by omega,ch]
theorem yM {s:ByteArray}{L:List Nat}{bs:Nat→Bool}{p:Nat}(hf:uV s L bs)(h:cU s p=true):jr s p bs=!(cW s L p (aR s p)):=by
 unfold jr
 have hsm:∀ c:Int,ew c=false→ci s L c=true:=fun c hc=>by simp[ci,hc]
 unfold cU at h
 by_cases h43:bt s p=43
 ·simp only[h43,if_true] at h
  have hh:=h
  simp only[fJ,Bool.and_eq_true] at h
  obtain⟨⟨h0,h1⟩,h2⟩:=h
  have hj:=eu s (p+2)
  have hj2:=eu s (da s (p+2))
  have e:d8 s p=wB s (p+1):=by simp[d8,h43]
  have e1:da s (p+1+1)=da s (p+2):=rfl
  have el:aR s p=(2+(da s (p+2) - (p+2)))+(da s (da s (p+2)) - da s (p+2)):=by
   simp only[aR,h43,if_true,cT,h0,h1,h2,e1];omega
  have hb:cW s L p (aR s p)=(ci s L (bt s (p+2))&&ci s L (bt s (da s (p+2)))):=by
   have x1:=pL (s:=s) (L:=L) (p:=p) (n:=2)
   have x2:=pL (s:=s) (L:=L) (p:=p) (n:=2+(da s (p+2) - (p+2)))
   rw[show p+(2+(da s (p+2) - (p+2)))=da s (p+2) by omega] at x2
   rw[el,x2,x1,ch,ch,Nat.add_zero,h43,hsm 43 (by decide),sZ h0]
   simp[cW]
  rw[hb,e]
  simp only[wB]
  rw[iZ hf,iZ hf]
  simp only[Bool.not_and,e1]
 ·by_cases h45:bt s p=45
  ·simp only[h45,if_true,show ¬(45:Int)=43 by decide,if_false] at h
   simp only[gq,Bool.and_eq_true] at h
   obtain⟨h0,h1⟩:=h
   have hj:=eu s (p+2)
   have e:d8 s p=tY s (p+1):=by simp[d8,h45]
   have e1:da s (p+1+1)=da s (p+2):=rfl
   have el:aR s p=2+(da s (p+2) - (p+2)):=by
    simp only[aR,h45,if_true,show ¬(45:Int)=43 by decide,if_false,c8,h0,h1,e1];omega
   have hb:cW s L p (aR s p)=ci s L (bt s (p+2)):=by
    rw[el,pL,ch,ch,Nat.add_zero,h45,hsm 45 (by decide),sZ h0]
    simp[cW]
   rw[hb,e]
   simp only[tY]
   rw[iZ hf]
   simp[e9]
  ·have h46:bt s p=46:=by simpa [h43,h45] using h
   have e:d8 s p=⟨3,0,0,0,0,0,0,0⟩:=by simp[d8,h43,h45]
   have el:aR s p=1:=by simp[aR,h46]
   rw[el,e,ch,Nat.add_zero,h46,hsm 46 (by decide)]
   simp[e9,cW]
theorem pu {s:ByteArray}{L:List Nat}(hL:∀ p∈L,b7 s p=true):∀ n,n≤L.length→(∃ bs,ce s (L.take n) (fun _=>false)=some bs∧uV s (L.take n) bs∧ke s L n=true)∨(ce s (L.take n) (fun _=>false)=none∧ke s L n=false)
 |0,_=>.inl ⟨_,rfl,fun n _=>rfl,rfl⟩
 |n+1,h=>by
  have hlt:n<L.length:=by omega
  have hok:=hL L[n] (List.getElem_mem hlt)
  have hgd:L.getD n 0=L[n]:=by simp[List.getD,hlt]
  have ht:L.take (n+1)=L.take n++[L[n]]:=List.take_succ_eq_append_getElem hlt
  rcases pu hL n (by omega) with ⟨bs,h1,h2,h3⟩|⟨h1,h2⟩
  ·rw[jp hlt h1,jk,h3,Bool.true_and,o9,hgd]
   by_cases hc:aQ (bt s L[n])=true
   ·rw[if_pos ((kW hok).mpr hc)]
    exact .inl ⟨_,rfl,by rw[ht];exact Cn h2 hok hc,by simp[hc]⟩
   ·have hc':aQ (bt s L[n])=false:=by simpa using hc
    rw[if_neg (fun e=>hc ((kW hok).mp e)),EO h2 hok hc',hc',Bool.false_or]
    cases hb:cW s (L.take n) L[n] (aG s L[n]) with
    |true=>exact .inl ⟨bs,rfl,by rw[ht];exact AP h2 hc',rfl⟩
    |false=>exact .inr ⟨rfl,rfl⟩
  ·right
   constructor
   ·rw[ht,eQ,h1];rfl
   ·rw[jk,h2];rfl
theorem AW {s:ByteArray}{L K:List Nat}(hL:∀ p∈L,b7 s p=true)(hK:∀ p∈K,cU s p=true):mr s L K=!(km s L K):=by
 unfold mr km
 rcases pu hL L.length (Nat.le_refl _) with ⟨bs,h1,h2,h3⟩|⟨h1,h2⟩
 ·rw[List.take_of_length_le (Nat.le_refl _)] at h1 h2
  rw[h1,h3]
  simp only[Bool.true_and]
  unfold ix l4
  rw[Bool.eq_iff_iff]
  simp only[List.any_eq_true,Bool.not_eq_true',List.all_eq_false]
  constructor
  ·rintro⟨p,hp,hx⟩
   exact⟨p,hp,by rw[yM h2 (hK p hp)] at hx;simpa using hx⟩
  ·rintro⟨p,hp,hx⟩
   exact⟨p,hp,by rw[yM h2 (hK p hp)];simpa using hx⟩
 ·rw[List.take_of_length_le (Nat.le_refl _)] at h1
  rw[h1,h2];rfl
theorem lA {s:ByteArray}{i:Nat}{L:List Nat}{j:Nat}{ok:Bool}(h:jy s i L j ok):ok=true→∀ p∈L,b7 s p=true:=by
 refine jy.ind (M:=fun i L j ok=>ok=true→∀ p∈L,b7 s p=true) ?_ ?_ ?_ ?_ ?_ h
 ·intro _ _
  intro h;cases h
 ·intro _ _ _
  intro h;cases h
 ·intro _ _ h _
  intro _ p hp;rw[List.mem_singleton.mp hp];exact h
 ·intro _ _ _ _ _
  intro h;cases h
 ·intro _ _ _ _ _ h _ _ ih
  intro e p hp
  rcases List.mem_cons.mp hp with rfl|hp
  ·exact h
  ·exact ih e p hp
theorem yF {s:ByteArray}{i:Nat}{L:List Nat}{j:Nat}{ok:Bool}(h:jW s i L j ok):ok=true→∀ p∈L,cU s p=true∧p+aR s p≤s.size:=by
 refine jW.ind (M:=fun i L j ok=>ok=true→∀ p∈L,cU s p=true∧p+aR s p≤s.size) ?_ ?_ ?_ ?_ ?_ h
 ·intro _ _
  intro h;cases h
 ·intro _ _ _
  intro h;cases h
 ·intro _ hi h _
  intro _ p hp;rw[List.mem_singleton.mp hp];exact⟨h,mX hi⟩
 ·intro _ _ _ _ _
  intro h;cases h
 ·intro _ _ _ _ hi h _ _ ih
  intro e p hp
  rcases List.mem_cons.mp hp with rfl|hp
  ·exact⟨h,mX hi⟩
  ·exact ih e p hp
theorem Fc {s:ByteArray}{i:Nat}{L:List Nat}{j:Nat}{ok:Bool}(h:jy s i L j ok):ok=true→i+L.length≤j:=by
 refine jy.ind (M:=fun i L j ok=>ok=true→i+L.length≤j) ?_ ?_ ?_ ?_ ?_ h
 ·intro _ _
  intro h;cases h
 ·intro _ _ _
  intro h;cases h
 ·intro _ _ _ _
  intro _;simp
 ·intro _ _ _ _ _
  intro h;cases h
 ·intro _ _ _ _ _ _ _ _ ih
  intro e;have:=ih e;simp;omega
theorem E5 {s:ByteArray}{i:Nat}{L:List Nat}{j:Nat}{ok:Bool}(h:jW s i L j ok):ok=true→i+L.length≤j:=by
 refine jW.ind (M:=fun i L j ok=>ok=true→i+L.length≤j) ?_ ?_ ?_ ?_ ?_ h
 ·intro _ _
  intro h;cases h
 ·intro _ _ _
  intro h;cases h
 ·intro _ _ _ _
  intro _;simp
 ·intro _ _ _ _ _
  intro h;cases h
 ·intro _ _ _ _ _ _ _ _ ih
  intro e;have:=ih e;simp;omega
theorem pJ {w w':World}{B:Nat}{s:ByteArray}{R:List ax}{xs:List Value}(h:gd w B s R xs)(hg:w.grownBy w' none):gd w' B s R xs:=hJ hg (fun g hg=>by cases hg) R xs h
theorem oO {w w':World}{B:Nat}{s:ByteArray}{v:Value}{R:List ax}(h:ju w B s v R)(hg:w.grownBy w' none):ju w' B s v R:=by
 obtain⟨xs,h1,h2⟩:=h
 exact⟨xs,aq h1 hg (fun g hg=>by cases hg),pJ h2 hg⟩
theorem fV.lens {s:ByteArray}{r:ax}(h:fV s r)(hs:s.size≤400):r.2.1.length≤400∧r.2.2.length≤400:=by
 have h1:=Fc h.conds rfl
 have h2:=E5 h.acts rfl
 have h3:=nj h.acts rfl
 omega
theorem mH {s:ByteArray}{r:ax}(h:fV s r):ip s r.2.1 r.2.2=(decide (5<r.2.1.length)||decide (4<r.2.2.length)||decide (3<es s r.2.1)):=by
 rw[ip,vt (lA h.conds rfl)]
theorem yE {s:ByteArray}{r:ax}(h:fV s r):mr s r.2.1 r.2.2=!(km s r.2.1 r.2.2):=AW (lA h.conds rfl) (fun p hp=>(yF h.acts rfl p hp).1)
def CV (w:World)(s:ByteArray)(x p:Int)(o:Option (List ax))(e:Ending)(w':World):Prop:=
 ∃ v,e=.returned (.tuple #[v,.int .i64 x,.int .i64 p])∧(∀ R,o=some R→ju w' w.heap.size s v R)∧(o=none→v=.slice none 0 0)∧w.grownBy w' none
theorem ld (s:ByteArray)(R:List ax)(w:World)(x p:Int)(o:Option (List ax))(hs:s.size≤400)(hR:kN s 0 R s.size true)
  (o1:Option Nat) (h1:bH (iP s R) R.length o1) (o2:Option Nat) (h2:bH (jT s R) R.length o2)
  (e1:∀ m,o1=some m→x=3∧p=m∧o=none) (e2:∀ m,o1=none→o2=some m→x=4∧p=m∧o=none) (e3:o1=none→o2=none→x=0∧p=0∧o=some R) :
  Calls Tryz.prog 39 #[.string s] w (CV w s x p o):=by
 have hall:=(tn hR rfl).2
 have hlen:=oY hR
 have HALL:=af hall
 have HPL:=af (fun W=>sA s W hs)
 have HRD:=af (fun W=>BH s R W hs hR)
 have HGO:=af ((pM hR).1 rfl)
 have H1:=af h1
 have H2:=af h2
 have E1:=af e1
 have E2:=af e2
 have E3:=af e3
 clear hall hR h1 h2 e1 e2 e3
 go_enter Tryz.func39,Tryz.ntmps39
 go_wp2_with fail
 go_at_call 76
 refine (HPL.out _).mono ?_
 rintro e w' ⟨pp,rfl,hp,rfl⟩
 have hpp:=(xR HGO.out.1 HGO.out.2 hp).1
 subst hpp
 clear hp HPL HGO
 go_wp2_with fail
 go_at_call 77
 refine (HRD.out _).mono ?_
 rintro e w1 ⟨v,rfl,⟨xs,hown,hpar⟩,hg1⟩
 obtain⟨a,m,c,rfl⟩:=an hown
 have em:=ar hown
 subst em
 have HP:=af hpar
 clear HRD hpar
 go_wp2_with fail
 go_loopw [7] (fun t wr=>∃ k:Nat,k≤R.length∧t=.int .i64 k∧w1.grownBy wr none∧∀ j,j<k→¬iP s R j) (fun t _=>R.length - (intOf t).toNat)
 case atStart=>exact⟨0,Nat.zero_le _,rfl,ag _ _,fun j hj=>by omega⟩
 case round=>
  obtain⟨k,hk,rfl,hg,hno⟩:=hrel
  have HN:=af hno
  clear hno
  by_cases hlt:k<R.length
  ·obtain⟨a1,m1,c1,a2,m2,c2,x0,x1,x2,q1,q2⟩:=iG R xs HP.out k hlt
   obtain⟨g,rfl,_,hgb,hgl,hcell⟩:=aC hown (by omega)
   have d0:=hg.cell (hcell _ _ x0) (by simp)
   have d1:=hg.cell (hcell _ _ x1) (by simp)
   have d2:=hg.cell (hcell _ _ x2) (by simp)
   have hok:=HALL.out R[k] (List.getElem_mem hlt)
   have em1:=ar q1
   have em2:=ar q2
   subst em1 em2
   have q1':=aq q1 hg (fun g hg=>by cases hg)
   have HPT:=af (sY s R[k].2.1 (bt s R[k].1 - 48) a1 a2 _ c1 R[k].2.2.length c2 w.heap.size wr (lA hok.conds rfl) (hok.lens hs).1 q1')
   have hpc:=nc s R[k].2.1
   have hl1:=(hok.lens hs).1
   have hl2:=(hok.lens hs).2
   have HB:Hid (iP s R k↔(9≤k∨5<R[k].2.1.length∨4<R[k].2.2.length∨3<es s R[k].2.1)):=af (by
    constructor
    ·rintro⟨_,h|h⟩
     ·exact .inl h
     ·rw[mH hok] at h;simp at h;rcases h with (h|h)|h
      ·exact .inr (.inl h)
      ·exact .inr (.inr (.inl h))
      ·exact .inr (.inr (.inr h))
    ·intro h
     refine⟨hlt,?_⟩
     rcases h with h|h|h|h
     ·exact .inl h
     ·right;rw[mH hok];simp[h]
     ·right;rw[mH hok];simp[h]
     ·right;rw[mH hok];simp[h])
   clear hcell x0 x1 x2 q1 q2 q1' hok
   obtain⟨lc,hlc⟩:∃ lc,lc=R[k].2.1.length:=⟨_,rfl⟩
   obtain⟨la,hla⟩:∃ la,la=R[k].2.2.length:=⟨_,rfl⟩
   obtain⟨np,hnp⟩:∃ np,np=es s R[k].2.1:=⟨_,rfl⟩
   obtain⟨wt,hwt⟩:∃ wt,wt=bt s R[k].1 - 48:=⟨_,rfl⟩
   rw[←hlc] at HPT HB d1 hpc hl1
   rw[←hla] at HPT HB d2 hl2
   rw[←hnp] at HPT HB hpc
   rw[←hwt] at HPT d0
   clear hlc hla hnp hwt
   by_cases hb:9≤k∨5<lc∨4<la∨3<np
   ·have HO:Hid (x=3∧p=k∧o=none):=af (by
     have hf:bH (iP s R) R.length (some k):=⟨hlt,HB.out.mpr hb,HN.out⟩
     exact E1.out k (bH.unique H1.out hf))
    obtain⟨rfl,rfl,rfl⟩:=HO.out
    go_wp2_with fail
    go_at_call 78
    refine HPT.out.mono ?_
    rintro e w2 ⟨rfl,hg2⟩
    have d1':=hg2.cell d1 (by simp)
    have d2':=hg2.cell d2 (by simp)
    by_cases z1:5<lc
    ·go_wp2
     go_ret3
     exact⟨_,rfl,(fun R h=>by cases h),(fun _=>rfl),ae hg1 (ae hg hg2)⟩
    ·by_cases z2:3<np
     ·go_wp2
      go_ret3
      exact⟨_,rfl,(fun R h=>by cases h),(fun _=>rfl),ae hg1 (ae hg hg2)⟩
     ·by_cases z3:4<la
      ·go_wp2
       go_ret3
       exact⟨_,rfl,(fun R h=>by cases h),(fun _=>rfl),ae hg1 (ae hg hg2)⟩
      ·have z4:9≤k:=by omega
       go_wp2
       go_ret3
       exact⟨_,rfl,(fun R h=>by cases h),(fun _=>rfl),ae hg1 (ae hg hg2)⟩
   ·have HNB:Hid (¬iP s R k):=af (fun h=>hb (HB.out.mp h))
    have z1:¬5<lc:=by omega
    have z2:¬3<np:=by omega
    have z3:¬4<la:=by omega
    have z4:¬9≤k:=by omega
    clear hb
    go_wp2_with fail
    go_at_call 78
    refine HPT.out.mono ?_
    rintro e w2 ⟨rfl,hg2⟩
    have d1':=hg2.cell d1 (by simp)
    have d2':=hg2.cell d2 (by simp)
    have hg':=ae hg hg2
    clear hg hg2 d0 d1 d2
    go_wp2
    go_roundw
    case rel=>
     refine⟨k+1,by omega,by go_num,hg',?_⟩
     intro j hj
     by_cases ej:j=k
     ·rw[ej];exact HNB.out
     ·exact HN.out j (by omega)
    case measure=>simp[intOf];omega
  ·have HO1:Hid (o1=none):=af (bH.unique H1.out (show bH (iP s R) R.length none from fun j hj=>HN.out j (by omega)))
   clear HN
   go_wp2_with fail
   go_loopw [9] (fun t wr=>∃ k:Nat,k≤R.length∧t=.int .i64 k∧w1.grownBy wr none∧∀ j,j<k→¬jT s R j) (fun t _=>R.length - (intOf t).toNat)
   case atStart=>exact⟨0,Nat.zero_le _,rfl,hg,fun j hj=>by omega⟩
   case round=>
    clear hg
    obtain⟨k',hk',rfl,hg,hno⟩:=hrel
    have HN:=af hno
    clear hno
    by_cases hlt':k'<R.length
    ·obtain⟨a1,m1,c1,a2,m2,c2,x0,x1,x2,q1,q2⟩:=iG R xs HP.out k' hlt'
     obtain⟨g,rfl,_,hgb,hgl,hcell⟩:=aC hown (by omega)
     have d0:=hg.cell (hcell _ _ x0) (by simp)
     have d1:=hg.cell (hcell _ _ x1) (by simp)
     have d2:=hg.cell (hcell _ _ x2) (by simp)
     have hok:=HALL.out R[k'] (List.getElem_mem hlt')
     have q1':=aq q1 hg (fun g hg=>by cases hg)
     have q2':=aq q2 hg (fun g hg=>by cases hg)
     have HWH:=af (Ax s R[k'].2.1 R[k'].2.2 (bt s R[k'].1 - 48) a1 a2 m1 c1 m2 c2 w.heap.size wr hs (lA hok.conds rfl) (fun p hp=>(yF hok.acts rfl p hp).2) (hok.lens hs).1 (hok.lens hs).2 q1' q2')
     have HB:Hid (jT s R k'↔km s R[k'].2.1 R[k'].2.2=false):=af (by
      constructor
      ·rintro⟨_,h⟩;rw[yE hok] at h;simpa using h
      ·intro h;exact⟨hlt',by rw[yE hok,h];rfl⟩)
     clear hcell x0 x1 x2 q1 q2 q1' q2' hok
     obtain⟨bb,hbb⟩:∃ bb,bb=km s R[k'].2.1 R[k'].2.2:=⟨_,rfl⟩
     rw[←hbb] at HWH HB
     clear hbb
     cases bb with
     |false=>
      have HO:Hid (x=4∧p=k'∧o=none):=af (by
       have hf:bH (jT s R) R.length (some k'):=⟨hlt',HB.out.mpr rfl,HN.out⟩
       exact E2.out k' HO1.out (bH.unique H2.out hf))
      obtain⟨rfl,rfl,rfl⟩:=HO.out
      go_wp2_with fail
      go_at_call 79
      refine HWH.out.mono ?_
      rintro e w2 ⟨rfl,hg2⟩
      go_wp2
      go_ret3
      exact⟨_,rfl,(fun R h=>by cases h),(fun _=>rfl),ae hg1 (ae hg hg2)⟩
     |true=>
      have HNB:Hid (¬jT s R k'):=af (fun h=>by have:=HB.out.mp h;cases this)
      go_wp2_with fail
      go_at_call 79
      refine HWH.out.mono ?_
      rintro e w2 ⟨rfl,hg2⟩
      have hg':=ae hg hg2
      clear hg hg2 d0 d1 d2
      go_wp2
      go_roundw
      case rel=>
       refine⟨k'+1,by omega,by go_num,hg',?_⟩
       intro j hj
       by_cases ej:j=k'
       ·rw[ej];exact HNB.out
       ·exact HN.out j (by omega)
      case measure=>simp[intOf];omega
    ·have HO2:Hid (o2=none):=af (bH.unique H2.out (show bH (jT s R) R.length none from fun j hj=>HN.out j (by omega)))
     obtain⟨rfl,rfl,rfl⟩:=E3.out HO1.out HO2.out
     go_wp2
     go_ret3
     exact⟨_,rfl,(fun R' h=>by cases h;exact oO ⟨xs,hown,HP.out⟩ hg),(fun h=>by cases h),ae hg1 hg⟩
theorem kB (bad:Nat→Prop):∀ n,∃ o,bH bad n o
 |0=>⟨none,fun j hj=>by omega⟩
 |n+1=>by
  obtain⟨o,h⟩:=kB bad n
  cases o with
  |some m=>exact⟨some m,by have h1:=h.1;omega,h.2.1,h.2.2⟩
  |none=>
   by_cases hb:bad n
   ·exact⟨some n,by omega,hb,h⟩
   ·refine⟨none,fun j hj=>?_⟩
    by_cases e:j=n
    ·rw[e];exact hb
    ·exact h j (by omega)
theorem pU {s:ByteArray}{R:List ax}{j:Nat}(h:kN s 0 R j true):j=s.size:=by
 obtain⟨⟨n,hn,hq⟩,hj⟩:=(pM h).1 rfl
 have:=kS s n (by rw[hq];omega)
 omega
theorem mt (s:ByteArray)(w:World)(x p:Int)(o:Option (List ax))(hs:s.size≤maxLen)(h:cF s x p o):
  Calls Tryz.prog 39 #[.string s] w (CV w s x p o):=by
 unfold maxLen at hs
 rcases h with ⟨h4,rfl,rfl,rfl⟩|⟨R,j,h4,hr,rfl,rfl,rfl⟩|⟨R,j,m,h4,hr,hb,rfl,rfl,rfl⟩|⟨R,j,m,h4,hr,hb,hu,rfl,rfl,rfl⟩|⟨R,j,h4,hr,hb,hu,rfl,rfl,rfl⟩
 ·go_enter Tryz.func39,Tryz.ntmps39
  go_wp2
  go_ret3
  exact⟨_,rfl,(fun R h=>by cases h),(fun _=>rfl),ag _ _⟩
 ·have HPL:=af (fun W=>sA s W h4)
  have HST:=af ((pM hr).2 rfl)
  clear hr
  go_enter Tryz.func39,Tryz.ntmps39
  go_wp2_with fail
  go_at_call 76
  refine (HPL.out _).mono ?_
  rintro e w' ⟨pp,rfl,hp,rfl⟩
  have hpp:=wY HST.out hp
  subst hpp
  clear hp
  go_wp2
  go_ret3
  exact⟨_,rfl,(fun R h=>by cases h),(fun _=>rfl),ag _ _⟩
 ·have e:=pU hr
  subst e
  obtain⟨o2,h2⟩:=kB (jT s R) R.length
  exact ld s R w _ _ _ h4 hr (some m) hb o2 h2 (fun m' e=>by cases e;exact⟨rfl,rfl,rfl⟩) (fun m' e=>by cases e) (fun e=>by cases e)
 ·have e:=pU hr
  subst e
  exact ld s R w _ _ _ h4 hr none hb (some m) hu (fun m' e=>by cases e) (fun m' _ e=>by cases e;exact⟨rfl,rfl,rfl⟩) (fun _ e=>by cases e)
 ·have e:=pU hr
  subst e
  exact ld s R w _ _ _ h4 hr none hb none hu (fun m' e=>by cases e) (fun m' _ e=>by cases e) (fun _ _=>⟨rfl,rfl,rfl⟩)
def qu (v:Value)(room:Int):Array Value:=#[v,.int .i64 room,.slice none 0 0,.slice none 0 0,.slice none 0 0,.int .i64 0]
theorem AG (s:ByteArray)(room:Int)(w:World)(x p:Int)(o:Option (List ax))(hs:s.size≤maxLen)(h:cF s x p o)(h1:1≤x):
  Calls Tryz.prog 17 #[.string s,.int .i64 room] w fun e w'=>e=.returned (.tuple #[.pointer none,.int .i64 x,.int .i64 p])∧w.grownBy w' none:=by
 have hx0:(x != 0)=true:=by simp;omega
 have HR:=af (fun W=>mt s W x p o hs h)
 clear h
 go_enter Tryz.func17,Tryz.ntmps17
 go_wp2_with fail
 go_at_call 39
 refine (HR.out _).mono ?_
 rintro e w1 ⟨v,rfl,ho,hn,hg⟩
 clear ho hn
 go_wp2
 go_ret3
 exact⟨rfl,hg⟩
theorem wD (s:ByteArray)(room:Int)(w:World)(p:Int)(o:Option (List ax))(hs:s.size≤maxLen)(h:cF s 0 p o)(h1:room<1∨999<room):
  Calls Tryz.prog 17 #[.string s,.int .i64 room] w fun e w'=>e=.returned (.tuple #[.pointer none,.int .i64 5,.int .i64 0])∧w.grownBy w' none:=by
 have HR:=af (fun W=>mt s W 0 p o hs h)
 clear h
 rcases h1 with h1|h1
 all_goals
  go_enter Tryz.func17,Tryz.ntmps17
  go_wp2_with fail
  go_at_call 39
  refine (HR.out _).mono ?_
  rintro e w1 ⟨v,rfl,ho,hn,hg⟩
  clear ho hn
  go_wp2
  go_ret3
  exact⟨rfl,hg⟩
theorem CE (s:ByteArray)(room:Int)(w:World)(p:Int)(R:List ax)(hs:s.size≤maxLen)(h:cF s 0 p (some R))(h1:1≤room)(h2:room≤999):
  Calls Tryz.prog 17 #[.string s,.int .i64 room] w fun e w'=>∃ g v,e=.returned (.tuple #[.pointer (some ⟨g,0,none⟩),.int .i64 0,.int .i64 0])∧w.heap.size≤g∧w'.heap[g]?=some (.cells (qu v room) 40 (0,0))∧ju w' w.heap.size s v R∧w.grownBy w' none:=by
 have HR:=af (fun W=>mt s W 0 p (some R) hs h)
 clear h
 go_enter Tryz.func17,Tryz.ntmps17
 go_wp2_with fail
 go_at_call 39
 refine (HR.out _).mono ?_
 rintro e w1 ⟨v,rfl,ho,hn,hg⟩
 have HO:=af (ho R rfl)
 obtain⟨xs,hown,hpar⟩:=ho R rfl
 obtain⟨a,m,c,rfl⟩:=an hown
 have hsz:=hg.size
 clear ho hn hown hpar
 go_wp2
 go_ret3
 exact⟨w1.heap.size,_,rfl,hsz,heap_alloc_new w1 _,oO HO.out (World.grownBy_alloc w1 _ none),ab hg _⟩
end Go.Proofs.YthlhbjnkohinmaaGreat
