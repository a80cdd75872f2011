import Derived.Test.YthlhbjnkohinmaaGreatP17
import Derived.Test.YthlhbjnkohinmaaGreatP08
import Derived.Laws.AppendOwnNone
namespace Go.Proofs.YthlhbjnkohinmaaGreat
set_option maxRecDepth 100000
set_option maxHeartbeats 8000000
open Go.RowKit
theorem yx {s:ByteArray} {i:Nat} (h:bx s i=3):aQ (bt s i)=true∧c8 (bt s (i+1))=true∧c8 (bt s (i+2))=true:=by
 unfold bx at h
 by_cases a:aQ (bt s i)=true
 ·by_cases b:c8 (bt s (i+1))=true
  ·by_cases c:c8 (bt s (i+2))=true
   ·exact⟨a,b,c⟩
   ·simp[a,b,c] at h
  ·simp[a,b] at h
 ·simp[a] at h
theorem D9 {s:ByteArray} {i:Nat} (h:bT s i=3):bc (bt s i)=true∧gF (bt s (i+1))=true∧bc (bt s (i+2))=true:=by
 unfold bT at h
 by_cases a:bc (bt s i)=true
 ·by_cases b:gF (bt s (i+1))=true
  ·by_cases c:bc (bt s (i+2))=true
   ·exact⟨a,b,c⟩
   ·simp[a,b,c] at h
  ·simp[a,b] at h
 ·simp[a] at h
theorem Fv (s:ByteArray) (F:List au) (l:List In) (p:Nat) (la fa:Option Addr) (lc fc B B2:Nat) (w:World) (hs:s.size≤400) (hok:b7 s p=true) (hll:l.length≤1000000000) (hF:rp F) (hFl:F.length≤60) (hl:∀ i∈l,qR F i∧i.facts.length≤100)
  (hrow:w.ownsRow B 136 6 (.slice la l.length lc) l.length (aH l)) (hfrow:w.ownsRow B2 9 1 (.slice fa F.length fc) F.length (gC F)) :
  Calls Tryz.prog 115 #[.slice la l.length lc,.string (s.extract p (p+aG s p)),.slice fa F.length fc] w fun e w'=>∃ v,e=.returned v∧w'.ownsRow w.heap.size 136 6 v (kI (-1) s F l p).length (aH (kI (-1) s F l p))∧w.grownBy w' none:=by
 obtain⟨hc3,hcs,_⟩:=sU hok
 have hsz:(s.extract p (p+aG s p)).size=aG s p:=by rw[da hcs];omega
 have hb:∀ k,k<aG s p→bt (s.extract p (p+aG s p)) k=bt s (p+k):=fun k hk=>j5 hcs hk
 have hle:aG s p≤400:=by omega
 unfold b7 at hok
 by_cases h33:bt s p=33
 ·simp only[h33,if_true] at hok
  have hpl:bx s (p+1)=3:=by simpa using hok
  have h4:aG s p=4:=by unfold aG;rw[if_pos h33];omega
  obtain⟨_,q1,q2⟩:=yx hpl
  have hon:kI (-1) s F l p=l.filter fun i=>fP F i.env (bt s (p+1)) (bt s (p+2)) (bt s (p+3)):=by unfold kI;rw[if_pos h33]
  rw[hon]
  have hpa:tS ((s.extract p (p+aG s p)).extract 1 4) (bt s (p+1)) (bt s (p+2)) (bt s (p+3)):=by
   rw[qL hcs (by omega)]
   refine⟨by rw[da (by omega)];omega,?_,?_,?_⟩
   ·rw[iY (by omega) (by omega)]
   ·rw[iY (by omega) (by omega)]
   ·rw[iY (by omega) (by omega)]
  refine sf (fun i=>fP F i.env (bt s (p+1)) (bt s (p+2)) (bt s (p+3))) l _ la fa lc F.length fc B w (by omega) (by omega) (by rw[hb 0 (by omega)];rw[Nat.add_zero,h33];rfl) hll hrow (af (fun k hk W hW=>?_))
  exact CG l[k].env _ _ _ F _ fa fc B2 W (by omega) (by rw[hb 0 (by omega)];exact h33) hpa hF hFl q1 q2 (hl _ (List.getElem_mem hk)).1.env (aq hfrow hW (fun g hg=>by cases hg))
 ·simp only[h33,if_false] at hok
  by_cases hc:aQ (bt s p)=true
  ·rw[if_pos hc] at hok
   have hpl:bx s p=3:=by simpa using hok
   have h3:aG s p=3:=by unfold aG;rw[if_neg h33,if_pos hc];exact hpl
   obtain⟨_,q1,q2⟩:=yx hpl
   have hon:kI (-1) s F l p=l.flatMap (iB F (bt s p) (bt s (p+1)) (bt s (p+2))):=by unfold kI;rw[if_neg h33,if_pos hc]
   rw[hon]
   exact FX F _ _ _ l _ la fa lc fc B B2 w ⟨by omega,hb 0 (by omega),hb 1 (by omega),hb 2 (by omega)⟩ (by omega) hc q1 q2 hll hF hFl hl hrow hfrow
  ·rw[if_neg hc] at hok
   have htl:bT s p=3:=by simpa using hok
   have h3:aG s p=3:=by unfold aG;rw[if_neg h33,if_neg hc];exact htl
   obtain⟨q0,q1,q2⟩:=D9 htl
   have hon:kI (-1) s F l p=l.filter fun i=>iq (bt s (p+1)) (fE (-1) i.env (bt s p)) (fE (-1) i.env (bt s (p+2))):=by unfold kI;rw[if_neg h33,if_neg hc]
   rw[hon]
   have hb0:bt (s.extract p (p+aG s p)) 0=bt s p:=hb 0 (by omega)
   have hb1:=hb 1 (by omega)
   have hb2:=hb 2 (by omega)
   refine sf (fun i=>iq (bt s (p+1)) (fE (-1) i.env (bt s p)) (fE (-1) i.env (bt s (p+2)))) l _ la fa lc F.length fc B w (by omega) (by omega) (by rw[hb0];simpa using hc) hll hrow (af (fun k hk W _=>?_))
   have:=BH l[k].env (s.extract p (p+aG s p)) fa F.length fc W (by omega) (by omega) (by rw[hb0];exact q0) (by rw[hb1];exact q1) (by rw[hb2];exact q2)
   rw[hb0,hb1,hb2] at this
   exact this
def eo (z:Int) (s:ByteArray) (F:List au) (r:Nat) (L:List Nat) (k:Nat):List In:=(L.take k).foldl (kI z s F) [In.start r]
theorem oC {z:Int} {s:ByteArray} {F:List au} {r:Nat} {L:List Nat} {k:Nat} (hk:k<L.length):eo z s F r L (k+1)=kI z s F (eo z s F r L k) L[k]:=by
 unfold eo
 rw[List.take_succ_eq_append_getElem hk,List.foldl_append]
 rfl
theorem qv {z:Int} {s:ByteArray} {F:List au} {r:Nat} {L:List Nat}:eo z s F r L L.length=dz z s F r L:=by
 unfold eo dz
 rw[List.take_length]
theorem zi {F:List au} {c t1 t2:Int} {i j:In} (h:j∈iB F c t1 t2 i):j.facts.length=i.facts.length+1∧j.rule=i.rule:=by
 unfold iB at h
 obtain⟨q,_,hm⟩:=List.mem_filterMap.mp h
 cases hg:fU i.env c t1 t2 q with
 |none=>rw[hg] at hm;cases hm
 |some e=>
  rw[hg] at hm
  simp only[Option.map_some,Option.some.injEq] at hm
  rw[←hm]
  simp
theorem AS {z:Int} {s:ByteArray} {F:List au} {l:List In} {p n r:Nat} (hl:∀ i∈l,i.facts.length≤n∧i.rule=r):∀ j∈kI z s F l p,j.facts.length≤n+1∧j.rule=r:=by
 intro j hj
 unfold kI at hj
 split at hj
 ·have:=hl j (List.mem_filter.mp hj).1;exact⟨by omega,this.2⟩
 ·split at hj
  ·obtain⟨i,hi,hm⟩:=List.mem_flatMap.mp hj
   have h1:=zi hm
   have h2:=hl i hi
   exact⟨by omega,by rw[h1.2,h2.2]⟩
  ·have:=hl j (List.mem_filter.mp hj).1;exact⟨by omega,this.2⟩
theorem n7 {z:Int} {s:ByteArray} {F:List au} (hF:rp F) (hFl:F.length≤60) {r:Nat} {L:List Nat}:∀ k,k≤L.length→(eo z s F r L k).length≤60 ^ k∧∀ i∈eo z s F r L k,qR F i∧i.facts.length≤k∧i.rule=r
 |0,_=>by
  refine⟨by simp[eo],fun i hi=>?_⟩
  simp[eo] at hi
  subst hi
  exact⟨ud F r,by simp[In.start],rfl⟩
 |k+1,hk=>by
  obtain⟨h1,h2⟩:=n7 hF hFl (z:=z) (s:=s) (r:=r) (L:=L) k (by omega)
  rw[oC (by omega)]
  refine⟨?_,fun i hi=>⟨C6 hF (fun j hj=>(h2 j hj).1) _ i hi,AS (fun j hj=>(h2 j hj).2) i hi⟩⟩
  have:=DZ z s F hFl (eo z s F r L k) (L[k]'(by omega))
  rw[Nat.pow_succ]
  exact Nat.le_trans this (Nat.mul_le_mul_right 60 h1)
theorem rW (z:Int) (s:ByteArray) {F:List au} (hF:rp F) (hFl:F.length≤60) (r:Nat) {L:List Nat} (hL:L.length≤5):(dz z s F r L).length≤777600000:=by
 rw[←qv]
 have h1:=(n7 hF hFl (z:=z) (s:=s) (r:=r) (L:=L) L.length (Nat.le_refl _)).1
 have h2:60 ^ L.length≤60 ^ 5:=Nat.pow_le_pow_right (by omega) hL
 have h3:(60:Nat) ^ 5=777600000:=by decide
 omega
theorem sw (z:Int) (s:ByteArray) {F:List au} (hF:rp F) (hFl:F.length≤60) {R:List ax} (hR:∀ k (h:k<R.length),R[k].2.1.length≤5):∀ n,n≤R.length→(bz z s F R n).length≤n*777600000
 |0,_=>by simp[bz]
 |n+1,hn=>by
  have ih:=sw z s hF hFl hR n (by omega)
  rw[fW,List.length_append]
  have e:R.getD n (0,[],[])=R[n]:=by simp[List.getD,List.getElem?_eq_getElem (show n<R.length by omega)]
  have:=rW z s hF hFl n (hR n (by omega))
  rw[e]
  omega
theorem wY (l:List In):∀ u∈aH l,u.oneCell'=true:=by
 intro u hu
 unfold aH at hu
 obtain⟨i,_,h⟩:=List.mem_flatMap.mp hu
 simp at h
 rcases h with rfl|rfl|rfl|rfl|rfl|rfl <;> rfl
theorem l5 (l m:List In):aH (l++m)=aH l++aH m:=by simp[aH]
theorem qB (l:List In):(aH l).length=l.length*6:=by
 induction l with
 |nil=>rfl
 |cons i l ih=>
  have e:aH (i::l)=.int .i64 i.rule::.int .i64 (eI i.env 0)::.int .i64 (eI i.env 1)::.int .i64 (eI i.env 2)::.int .i64 (eI i.env 3)::.string (bA i.facts)::aH l:=rfl
  rw[e]
  simp[ih]
  omega
theorem pH {w:World} {base:Nat} {e:TypeId} {size:Nat} {g m c n:Nat} {xs:List Value} (h:w.ownsRow base e size (.slice (some ⟨g,0,none⟩) m c) n xs):∀ j u,xs[j]?=some u→w.cell? ((⟨g,0,none⟩:Addr).add j)=some u:=by
 intro j u hj
 by_cases hn:0<n
 ·obtain⟨g',e1,_,_,_,hcell⟩:=aC h hn
  simp only[Option.some.injEq,Addr.mk.injEq,and_true] at e1
  rw[e1]
  have:=hcell j u hj
  have hadd:(⟨g',0,none⟩:Addr).add j=⟨g',j,none⟩:=by unfold Addr.add;split <;> simp_all
  rw[hadd]
  exact this
 ·have h1:=h.1
  have:n=0:=by omega
  subst this
  simp at h1
  rw[h1] at hj
  simp at hj
theorem D4 {w:World} {e:TypeId} {base size:Nat} {cs:List Value} (hb:base≤w.heap.size) (hs:cs.length=size):(w.alloc (.cells cs.toArray e)).ownsRow base e size (.slice (some ⟨w.heap.size,0,none⟩) 1 1) 1 cs:=
 ⟨by simp[hs],.inr ⟨w.heap.size,1,cs.toArray,rfl,hb,heap_alloc_new w _,Nat.le_refl 1,by unfold maxLen;omega,by simp[hs],by simp[←hs]⟩⟩
theorem EG (s:ByteArray) (R:List ax) (F:List au) (ra fa:Option Addr) (rc fc:Nat) (xs:List Value) (w:World) (hs:s.size≤400) (hR:∀ r∈R,gd s r) (hR9:R.length≤9) (hR5:∀ k (h:k<R.length),R[k].2.1.length≤5) (hF:rp F) (hFl:F.length≤60)
  (hrow:w.ownsRow 0 155 3 (.slice ra R.length rc) R.length xs) (hpar:fX w 0 s R xs) (hfrow:w.ownsRow 0 9 1 (.slice fa F.length fc) F.length (gC F)) :
  Calls Tryz.prog 91 #[.slice ra R.length rc,.slice fa F.length fc] w fun e w'=>∃ v,e=.returned v∧w'.ownsRow w.heap.size 136 6 v (bz (-1) s F R R.length).length (aH (bz (-1) s F R R.length))∧w.grownBy w' none:=by
 obtain⟨i0,hi0,hz0,hz1,hz2⟩:=info_parts Tryz.info136
 have HROW:=af hrow
 have HPAR:=af hpar
 have HFR:=af hfrow
 have HR5:=af hR5
 have HILEN:=af (sw (-1) s hF hFl hR5)
 have HRL:=af (fun r (L:List Nat) (h:L.length≤5)=>rW (-1) s hF hFl r h)
 have HON:Hid (∀ (i:Nat) (hi:i<R.length) (k:Nat) (hk:k<R[i].2.1.length) (la:Option Addr) (lc:Nat) (W:World),w.grownBy W none→W.ownsRow w.heap.size 136 6 (.slice la (eo (-1) s F i R[i].2.1 k).length lc) (eo (-1) s F i R[i].2.1 k).length (aH (eo (-1) s F i R[i].2.1 k))→
   Calls Tryz.prog 115 #[.slice la (eo (-1) s F i R[i].2.1 k).length lc,.string (s.extract R[i].2.1[k] (R[i].2.1[k]+aG s R[i].2.1[k])),.slice fa F.length fc] W fun e w'=>∃ v,e=.returned v∧w'.ownsRow W.heap.size 136 6 v (eo (-1) s F i R[i].2.1 (k+1)).length (aH (eo (-1) s F i R[i].2.1 (k+1)))∧W.grownBy w' none):=af (by
  intro i hi k hk la lc W hW ho
  have hb:=n7 hF hFl (z:=-1) (s:=s) (r:=i) (L:=R[i].2.1) k (by omega)
  have h5:=hR5 i hi
  have hp:60 ^ k≤60 ^ 5:=Nat.pow_le_pow_right (by omega) (by omega)
  have h3:(60:Nat) ^ 5=777600000:=by decide
  rw[oC hk]
  exact Fv s F _ R[i].2.1[k] la fa lc fc w.heap.size 0 W hs (lC (hR _ (List.getElem_mem hi)).conds rfl _ (List.getElem_mem hk)) (by omega) hF hFl (fun x hx=>⟨(hb.2 x hx).1,by have:=(hb.2 x hx).2.1;omega⟩) ho (aq hfrow hW (fun g hg=>by cases hg)))
 clear hrow hpar hfrow hR hF hR5
 go_enter Tryz.func91,Tryz.ntmps91
 go_wp2_with fail
 go_loopw [5,6] (fun v t wr=>∃ i:Nat,i≤R.length∧t=.int .i64 i∧wr.ownsRow w.heap.size 136 6 v (bz (-1) s F R i).length (aH (bz (-1) s F R i))∧w.grownBy wr none) (fun _ t _=>R.length - (intOf t).toNat)
 case atStart=>exact⟨0,by omega,rfl,World.ownsRow_nil _ _ _ _,ag _ _⟩
 case round=>
  obtain⟨i,hi,rfl,hown,hg⟩:=hrel
  generalize wr=W1 at*
  have HG:=af hg
  have HOW:=af hown
  by_cases hlt:i<R.length
  ·obtain⟨v0,hv0⟩:∃ v0,v0=(R[i].2.1):=⟨_,rfl⟩
   have HONI:=af (HON.out i hlt)
   have hL5:=HR5.out i hlt
   have HNS:=af (fW (-1) s F R i)
   have hnl:=HILEN.out i (by omega)
   have hml:=HRL.out i R[i].2.1 hL5
   have egd:R.getD i (0,[],[])=R[i]:=by simp[List.getD,List.getElem?_eq_getElem hlt]
   rw[egd] at HNS
   obtain⟨a1,m1,c1,a2,m2,c2,x0,x1,x2,o1,o2⟩:=iD R xs HPAR.out i hlt
   obtain⟨gr,hra,_,_,hgr,hrcell⟩:=aC HROW.out (by omega)
   subst hra
   have HRC:Hid (∀ W,w.grownBy W none→W.cell? ⟨gr,i*3+1,none⟩=some (.slice a1 m1 c1)):=af (fun W hW=>am hW (hrcell _ _ x1))
   have em1:=ar o1
   subst em1
   have HCT:Hid (∀ k (hk:k<R[i].2.1.length) W,w.grownBy W none→∃ gc,a1=some ⟨gc,0,none⟩∧W.cell? ⟨gc,k,none⟩=some (.string (s.extract R[i].2.1[k] (R[i].2.1[k]+aG s R[i].2.1[k])))):=af (fun k hk W hW=>by
    obtain⟨gc,e,_,_,_,hcell⟩:=aC o1 (by omega)
    refine⟨gc,e,am hW (hcell k _ ?_)⟩
    simp[dJ,hk])
   have HBA:=af (qv (z:=-1) (s:=s) (F:=F) (r:=i) (L:=R[i].2.1))
   rw[←hv0] at HONI HNS HCT HBA hL5 hml HRC
   have HLK:=af hv0
   obtain⟨av,mv,cv,rfl⟩:=an hown
   have em:=ar hown
   subst em
   have hsz:=hg.size
   have HST:Hid ((W1.alloc (.cells #[.int .i64 i,.int .i64 (-1),.int .i64 (-1),.int .i64 (-1),.int .i64 (-1),.string ByteArray.empty] 136)).ownsRow w.heap.size 136 6 (.slice (some ⟨W1.heap.size,0,none⟩) 1 1) (eo (-1) s F i v0 0).length (aH (eo (-1) s F i v0 0))):=af (D4 (w:=W1) (cs:=[.int .i64 i,.int .i64 (-1),.int .i64 (-1),.int .i64 (-1),.int .i64 (-1),.string ByteArray.empty]) hsz rfl)
   clear hv0 x0 x1 x2 o1 o2 hrcell hown hg egd
   go_wp2_with fail
   have HGA:Hid (W1.grownBy (W1.alloc (.cells #[.int .i64 i,.int .i64 (-1),.int .i64 (-1),.int .i64 (-1),.int .i64 (-1),.string ByteArray.empty] 136)) none):=af (ab (ag _ _) _)
   go_loopw [7,8] (fun v t wr2=>∃ k:Nat,k≤v0.length∧t=.int .i64 k∧wr2.ownsRow w.heap.size 136 6 v (eo (-1) s F i v0 k).length (aH (eo (-1) s F i v0 k))∧W1.grownBy wr2 none) (fun _ t _=>v0.length - (intOf t).toNat)
   case atStart=>exact⟨0,by omega,rfl,HST.out,HGA.out⟩
   case round=>
    obtain⟨k,hk,rfl,hown,hg2⟩:=hrel
    have HG2:=af hg2
    have HOW2:=af hown
    have q1:=HRC.out _ (ae HG.out hg2)
    obtain⟨lv,lm,lcv,rfl⟩:=an hown
    have em:=ar hown
    subst em
    by_cases hltk:k<v0.length
    ·obtain⟨gc,rfl,q2⟩:=HCT.out k hltk _ (ae HG.out hg2)
     have HC:=af (HONI.out k hltk lv lcv _ (ae HG.out hg2) hown)
     obtain⟨ct,hct⟩:∃ ct,ct=s.extract v0[k] (v0[k]+aG s v0[k]):=⟨_,rfl⟩
     rw[←hct] at q2 HC
     have hsz2:=(ae HG.out hg2).size
     clear hct hown hg2
     go_wp2_with fail
     go_at_call 115
     refine HC.out.mono ?_
     rintro er w1 ⟨v1,rfl,ho1,hg1⟩
     have HO1:=af (bO ho1 hsz2)
     have HG1:=af hg1
     clear ho1 hg1
     go_wp2_with fail
     go_roundw
     case rel=>exact⟨k+1,by omega,by go_num,HO1.out,ae HG2.out HG1.out⟩
     case measure=>simp[intOf];omega
    ·have ek:k=v0.length:=by omega
     subst ek
     rw[HBA.out] at HOW2 hown ⊢
     have how2:=aq HOW.out hg2 (fun g hg=>by cases hg)
     have HAPP:Hid (aH (bz (-1) s F R (i+1))=aH (bz (-1) s F R i)++aH (dz (-1) s F i v0)):=af (by rw[HNS.out,l5])
     have HAPL:Hid ((bz (-1) s F R (i+1)).length=(bz (-1) s F R i).length+(dz (-1) s F i v0).length):=af (by rw[HNS.out,List.length_append])
     have hdl:=qB (dz (-1) s F i v0)
     have HD1:=af (wY (dz (-1) s F i v0))
     obtain⟨IR,hIR⟩:∃ IR,IR=dz (-1) s F i v0:=⟨_,rfl⟩
     rw[←hIR] at hown HAPP HAPL hdl HD1 hml HOW2 ⊢
     obtain⟨IN,hIN⟩:∃ IN,IN=bz (-1) s F R i:=⟨_,rfl⟩
     rw[←hIN] at how2 HAPP HAPL hnl HOW ⊢
     have hsz2:=(ae HG.out hg2).size
     have HOWN2:=af how2
     have HOWN:=af hown
     clear hIR hIN hg2
     cases lv with
     |none=>
      have hz:IR.length=0∧lcv=0:=by
       obtain⟨_,h2⟩:=hown
       rcases h2 with ⟨e,h3⟩|⟨_,_,_,e,_⟩
       ·simp only[Value.slice.injEq] at e
        exact⟨e.2.1,e.2.2⟩
       ·simp at e
      have hIRn:IR=[]:=List.length_eq_zero_iff.mp hz.1
      have HO3:Hid (wr.ownsRow w.heap.size 136 6 (.slice av IN.length cv) (bz (-1) s F R (i+1)).length (aH (bz (-1) s F R (i+1)))):=af (by
       rw[HAPP.out,HAPL.out,hIRn]
       simpa [aH] using HOWN2.out)
      obtain⟨hz1',hz2'⟩:=hz
      subst hz2'
      rw[hz1']
      clear hown hdl
      go_wp2_with (first|(at_builtin;refine wpList_append_own_none rfl (.tmp 40) (.tmp 41) 130 rfl w.heap.size 136 i0 6 Tryz.underlying130 hi0 _ _ _ rfl how2 rfl ?_))
      go_roundw
      case rel=>exact⟨i+1,by omega,by go_num,HO3.out,ae HG.out HG2.out⟩
      case measure=>simp[intOf];omega
     |some la=>
      obtain⟨gs,hgs⟩:∃ gs,la=⟨gs,0,none⟩:=by
       obtain⟨_,h2⟩:=hown
       rcases h2 with ⟨e,_⟩|⟨g',_,_,e,_⟩
       ·simp at e
       ·simp only[Value.slice.injEq,Option.some.injEq] at e
        exact⟨g',e.1⟩
      subst hgs
      go_wp2_with (first|(at_builtin;refine wpList_append_own _ rfl (.tmp 40) (.tmp 41) 130 rfl (w.heap.size) 136 i0 (.agg #[.int .i64 0,.int .i64 0,.int .i64 0,.int .i64 0,.int .i64 0,.string ByteArray.empty]) 6 56 Tryz.underlying130 hi0 hz0 hz1 hz2 rfl (by decide) _ _ _ rfl how2 _ IR.length lcv (aH IR) rfl hdl (pH HOWN.out) HD1.out ?c3 ?c4 hsz2 ?_))
      case c3=>unfold maxLen;omega
      case c4=>omega
      ·intro v' w3 hown3 hg3 _
       have HO3:Hid (w3.ownsRow w.heap.size 136 6 v' (bz (-1) s F R (i+1)).length (aH (bz (-1) s F R (i+1)))):=af (by rw[HAPP.out,HAPL.out];exact hown3)
       have HG3:Hid (w.grownBy w3 none):=af (aK (ae HG.out HG2.out) hg3 (fun g hg=>(HOWN2.out.lt g hg).1))
       clear hown3 hg3
       go_wp2_with fail
       go_roundw
       case rel=>exact⟨i+1,by omega,by go_num,HO3.out,HG3.out⟩
       case measure=>simp[intOf];omega
  ·have e:i=R.length:=by omega
   subst e
   clear hown hg
   go_wp2_with fail
   go_ret
   exact⟨_,rfl,HOW.out,HG.out⟩
def ep (i:In):Value:=.agg #[.int .i64 i.rule,.int .i64 (eI i.env 0),.int .i64 (eI i.env 1),.int .i64 (eI i.env 2),.int .i64 (eI i.env 3),.string (bA i.facts)]
def fN (i:In):ByteArray:=strOfNums [48+(i.rule:Int)]++bA i.facts
theorem ow (i:In) (w:World) (hr:i.rule≤9) (hf:i.facts.length≤100) :
  Calls Tryz.prog 64 #[ep i] w fun e w'=>e=.returned (.string (fN i))∧w.grownBy w' none:=by
 have hz:(bA i.facts).size≤300:=by rw[fA];omega
 unfold ep fN
 obtain⟨ru,hru⟩:∃ ru:Int,ru=i.rule:=⟨_,rfl⟩
 obtain⟨ft,hft⟩:∃ ft,ft=bA i.facts:=⟨_,rfl⟩
 rw[←hft] at hz ⊢
 have h0:0≤ru:=by omega
 have h9:ru≤9:=by omega
 rw[←hru]
 generalize eI i.env 0=e0
 generalize eI i.env 1=e1
 generalize eI i.env 2=e2
 generalize eI i.env 3=e3
 clear hru hft hr hf
 have h1:(48:Int)+ru≤255:=by omega
 have hcv:=run_convert_bytes_arg (P:=Tryz.prog) ((w.alloc (.cells #[.int .i64 ru,.int .i64 e0,.int .i64 e1,.int .i64 e2,.int .i64 e3,.string ft] 136)).alloc (.cells #[.int .u8 (48+ru)] 5)) 160 5 Tryz.underlying160 Tryz.underlying5 (w.heap.size+1) 0 1 1 [48+ru] rfl (by
  intro i hi
  rw[World.cell?_alloc_at _ _ _ _ (by simp)]
  match i,hi with
  |0,_=>rfl) 9 Tryz.underlying9
 have hs1:(strOfNums [48+ru]).size=1:=rfl
 obtain⟨nt,hnt⟩:∃ nt,nt=strOfNums [48+ru]:=⟨_,rfl⟩
 rw[←hnt] at hcv hs1 ⊢
 clear hnt
 go_enter Tryz.func64,Tryz.ntmps64
 go_wp2
 go_ret
 exact⟨rfl,ab (ab (ag _ _) _) _⟩
theorem vQ (l:List ByteArray):∀ z:ByteArray,(l.foldl (·++·) z).data.toList=z.data.toList++l.flatMap fun x=>x.data.toList:=by
 induction l with
 |nil=>intro z;simp
 |cons x l ih=>intro z;rw[List.foldl_cons,ih];simp[ByteArray.data_append]
theorem jf (l:List au):(bA l).data.toList=l.flatMap fun q=>(cz q.1 q.2.1).data.toList:=by
 unfold bA cg
 rw[vQ]
 simp[List.flatMap_map]
theorem py {α β:Type} {f:α→List β} {m:Nat} (hf:∀ a,(f a).length=m):∀ (l:List α) (j:Nat),(l.flatMap f).drop (j*m)=(l.drop j).flatMap f
 |l,0=>by simp
 |[],j+1=>by simp
 |a::l,j+1=>by
  rw[List.flatMap_cons,List.drop_succ_cons,←py hf l j,Nat.add_mul,Nat.one_mul,Nat.add_comm,←List.drop_drop,List.drop_left' (hf a)]
theorem oB (l:List au) (j:Nat) (hj:j<l.length):(bA l).extract (j*3) (j*3+2)=aw l[j].1:=by
 apply ByteArray.ext
 apply Array.toList_inj.mp
 rw[ByteArray.data_extract,Array.toList_extract,jf,List.extract_eq_take_drop]
 rw[py (m:=3) (fun _=>rfl),List.drop_eq_getElem_cons hj,List.flatMap_cons]
 simp only[Nat.add_sub_cancel_left]
 rw[List.take_append_of_le_length (by show 2≤3;omega)]
 rfl
def gO (com:List (List Wr)) (S:br) (l:List au):Int:=l.foldl (fun n q=>if (dn com S (aw q.1)).2>n then (dn com S (aw q.1)).2 else n) (-(com.length:Int) - 2)
theorem AV (com:List (List Wr)) (S:br) (l:List au) (j:Nat) (hj:j<l.length):gO com S (l.take (j+1))=if (dn com S (aw l[j].1)).2>gO com S (l.take j) then (dn com S (aw l[j].1)).2 else gO com S (l.take j):=by
 unfold gO
 rw[List.take_succ_eq_append_getElem hj,List.foldl_append]
 rfl
structure oK (com:List (List Wr)) (S:br):Prop where
 snap:0≤S.snap
 snapLe:S.snap≤com.length
 comLen:com.length≤9223372036854775000
 each:∀ l∈com,l.length≤9223372036854775807
 wrLen:S.wr.length≤9223372036854775806
theorem pQ (y:Nat) (com:List (List Wr)) (S:br) (p:Value) (a:Option Addr) (cp:Nat) (cs:List Value) (fc fp:List Nat) (i:In) (w:World)
  (hE:im y com S p a cp cs fc fp w) (hk:oK com S) (hf:i.facts.length≤100) :
  Calls Tryz.prog 116 #[.pointer (some ⟨y,0,none⟩),p,ep i] w fun e w'=>e=.returned (.int .i64 (gO com S i.facts))∧w.grownBy w' none:=by
 have hcl:=hk.comLen
 have HSEE:Hid (∀ (c:ByteArray) (W:World),im y com S p a cp cs fc fp W→Calls Tryz.prog 85 #[.pointer (some ⟨y,0,none⟩),p,.string c] W fun e w'=>e=.returned (.tuple #[.int .i64 (dn com S c).1,.int .i64 (dn com S c).2])∧∃ n,w'=W.drewN n):=
  af (fun c W h=>uD y com cs fc S p fp c a _ cp W h.cell h.row h.com h.ses hk.snap hk.snapLe (by omega) hk.each hk.wrLen)
 have HE:=af hE
 have c2:=hE.cell
 have hyl:=World.block_lt_of_cell? w _ c2
 have hyz:y≠w.heap.size:=by simp at hyl;omega
 have hyl2:y<w.heap.size:=by simpa using hyl
 have HSZ:=af (fA i.facts)
 have HCE:=af (oB i.facts)
 have HLS:=af (AV com S i.facts)
 obtain⟨G,hG⟩:∃ G,G=i.facts:=⟨_,rfl⟩
 obtain⟨r,hr⟩:∃ r,r=gO com S i.facts:=⟨_,rfl⟩
 rw[←hr]
 unfold ep
 rw[←hG] at hf hr HSZ HCE HLS ⊢
 have HR:=af hr
 obtain⟨ft,hft⟩:∃ ft,ft=bA G:=⟨_,rfl⟩
 rw[←hft] at HSZ HCE ⊢
 have hsz:=HSZ.out
 obtain⟨ru,hru⟩:∃ ru:Int,ru=i.rule:=⟨_,rfl⟩
 rw[←hru]
 generalize eI i.env 0=e0
 generalize eI i.env 1=e1
 generalize eI i.env 2=e2
 generalize eI i.env 3=e3
 clear hE hk hG hr hft hru hyl
 go_enter Tryz.func116,Tryz.ntmps116
 go_wp2_with fail
 have HWA:Hid (w.grownBy (w.alloc (.cells #[.int .i64 ru,.int .i64 e0,.int .i64 e1,.int .i64 e2,.int .i64 e3,.string ft] 136)) none):=af (ab (ag _ _) _)
 have HWB:Hid ((w.alloc (.cells #[.int .i64 ru,.int .i64 e0,.int .i64 e1,.int .i64 e2,.int .i64 e3,.string ft] 136)).cell? ⟨w.heap.size,5,none⟩=some (.string ft)):=af (cd rfl)
 generalize w.alloc (.cells #[.int .i64 ru,.int .i64 e0,.int .i64 e1,.int .i64 e2,.int .i64 e3,.string ft] 136)=WA at HWA HWB ⊢
 generalize w.heap.size=b at HWB ⊢
 go_loopw [7,8] (fun v t wr=>∃ j:Nat,j≤G.length∧t=.int .i64 ((j:Int)*3)∧v=.int .i64 (gO com S (G.take j))∧WA.grownBy wr none) (fun _ t _=>G.length*3 - (intOf t).toNat)
 case atStart=>exact⟨0,by omega,rfl,rfl,ag _ _⟩
 case round=>
  obtain⟨j,hj,rfl,rfl,hg⟩:=hrel
  have HG:=af hg
  have d5:=am hg HWB.out
  by_cases hlt:j<G.length
  ·have HC:=af (HSEE.out (aw G[j].1) wr ((HE.out.kept HWA.out).kept hg))
   have HX:=af (HCE.out j hlt)
   have HL:=af (HLS.out j hlt)
   obtain⟨ct,hct⟩:∃ ct,ct=aw G[j].1:=⟨_,rfl⟩
   rw[←hct] at HC HX HL
   obtain⟨v0,hv0⟩:∃ v0,v0=(dn com S ct).1:=⟨_,rfl⟩
   obtain⟨t0,ht0⟩:∃ t0,t0=(dn com S ct).2:=⟨_,rfl⟩
   rw[←hv0,←ht0] at HC
   rw[←ht0] at HL
   obtain⟨n0,hn0⟩:∃ n0,n0=gO com S (G.take j):=⟨_,rfl⟩
   rw[←hn0] at HL ⊢
   have hx:ft.extract (j*3) (j*3+2)=ct:=HX.out
   have b1:(j:Int)*3+2<ft.size:=by omega
   have b2:(0:Int)≤(j:Int)*3:=by omega
   clear hct hv0 ht0 hn0 hg
   go_wp2_with fail
   go_at_call 85
   refine HC.out.mono ?_
   rintro er w1 ⟨rfl,m,rfl⟩
   have ej:((j:Int)*3+3)=((j+1:Nat):Int)*3:=by omega
   have HEJ:=af ej
   clear ej
   by_cases hgt:t0>n0
   ·have HL2:Hid (gO com S (G.take (j+1))=t0):=af (by rw[HL.out,if_pos hgt])
    go_wp2_with fail
    go_roundw
    case rel=>exact⟨j+1,by omega,by rw[←HEJ.out],by rw[HL2.out],al HG.out m⟩
    case measure=>simp[intOf];omega
   ·have HL2:Hid (gO com S (G.take (j+1))=n0):=af (by rw[HL.out,if_neg hgt])
    go_wp2_with fail
    go_roundw
    case rel=>exact⟨j+1,by omega,by rw[←HEJ.out],by rw[HL2.out],al HG.out m⟩
    case measure=>simp[intOf];omega
  ·have e:j=G.length:=by omega
   subst e
   have HRR:Hid (gO com S (G.take G.length)=r):=af (by rw[List.take_length,HR.out])
   obtain⟨n0,hn0⟩:∃ n0,n0=gO com S (G.take G.length):=⟨_,rfl⟩
   rw[←hn0] at HRR ⊢
   clear hn0 hg
   go_wp2_with fail
   go_ret
   exact⟨by rw[←HRR.out];rfl,ae HWA.out HG.out⟩
def eh (s:ByteArray) (R:List ax) (r:Nat):Int:=bt s (R.getD r (0,[],[])).1 - 48
structure lK (y:Nat) (s:ByteArray) (R:List ax) (ra:Option Addr) (rc:Nat) (xs:List Value) (w:World):Prop where
 cell:w.cell? ⟨y,0,none⟩=some (.slice ra R.length rc)
 row:w.ownsRow 0 155 3 (.slice ra R.length rc) R.length xs
 parts:fX w 0 s R xs
theorem lK.kept {y:Nat} {s:ByteArray} {R:List ax} {ra:Option Addr} {rc:Nat} {xs:List Value} {w w':World} (h:lK y s R ra rc xs w) (hg:w.grownBy w' none):lK y s R ra rc xs w':=
 ⟨am hg h.cell,aq h.row hg (fun g hg=>by cases hg),pr h.parts hg⟩
theorem lK.weight {y:Nat} {s:ByteArray} {R:List ax} {ra:Option Addr} {rc:Nat} {xs:List Value} {w:World} (h:lK y s R ra rc xs w) {k:Nat} (hk:k<R.length):∃ g,ra=some ⟨g,0,none⟩∧g<w.heap.size∧w.cell? ⟨g,k*3,none⟩=some (.int .i64 (eh s R k)):=by
 obtain⟨a1,m1,c1,a2,m2,c2,x0,_⟩:=iD R xs h.parts k hk
 obtain⟨g,e,_,_,hl,hcell⟩:=aC h.row (by omega)
 refine⟨g,e,hl,?_⟩
 rw[hcell _ _ x0]
 simp[eh,List.getD,List.getElem?_eq_getElem hk]
def E8 (a b:ByteArray):Bool:=Op.bytesLess a.toList b.toList
def kh (ui uj ti tj:Int) (ri rj:Nat) (lt:Bool):Bool:=if ui≠uj then decide (ui>uj) else if ti≠tj then decide (ti>tj) else if ri≠rj then decide (ri<rj) else lt
theorem zP (y:Nat) (com:List (List Wr)) (S:br) (p:Value) (a:Option Addr) (cp:Nat) (cs:List Value) (fc fp:List Nat) (s:ByteArray) (R:List ax) (ra:Option Addr) (rc:Nat) (xs:List Value) (i j:In) (w:World)
  (hE:im y com S p a cp cs fc fp w) (hA:lK y s R ra rc xs w) (hk:oK com S) (hfi:i.facts.length≤100) (hfj:j.facts.length≤100) (hi:i.rule<R.length) (hj:j.rule<R.length) :
  Calls Tryz.prog 93 #[.pointer (some ⟨y,0,none⟩),p,ep i,ep j] w fun e w'=>e=.returned (.bool (kh (eh s R i.rule) (eh s R j.rule) (gO com S i.facts) (gO com S j.facts) i.rule j.rule (E8 (bA i.facts) (bA j.facts))))∧w.grownBy w' none:=by
 have HLI:Hid (∀ W,w.grownBy W none→Calls Tryz.prog 116 #[.pointer (some ⟨y,0,none⟩),p,ep i] W fun e w'=>e=.returned (.int .i64 (gO com S i.facts))∧W.grownBy w' none):=af (fun W hW=>pQ y com S p a cp cs fc fp i W (hE.kept hW) hk hfi)
 have HLJ:Hid (∀ W,w.grownBy W none→Calls Tryz.prog 116 #[.pointer (some ⟨y,0,none⟩),p,ep j] W fun e w'=>e=.returned (.int .i64 (gO com S j.facts))∧W.grownBy w' none):=af (fun W hW=>pQ y com S p a cp cs fc fp j W (hE.kept hW) hk hfj)
 obtain⟨gr,rfl,hgr,q1⟩:=hA.weight hi
 obtain⟨gr2,e2,_,q2⟩:=hA.weight hj
 simp only[Option.some.injEq,Addr.mk.injEq,and_true] at e2
 subst e2
 have c0:=hA.cell
 have hyl:=World.block_lt_of_cell? w _ c0
 have hyl2:y<w.heap.size:=by simpa using hyl
 have y1:y≠w.heap.size:=by omega
 have y2:y≠w.heap.size+1:=by omega
 have g1:gr≠w.heap.size:=by omega
 have g2:gr≠w.heap.size+1:=by omega
 have y3:y<w.heap.size+1:=by omega
 have g3:gr<w.heap.size+1:=by omega
 unfold ep at HLI HLJ ⊢
 obtain⟨ui,hui⟩:∃ ui,ui=eh s R i.rule:=⟨_,rfl⟩
 obtain⟨uj,huj⟩:∃ uj,uj=eh s R j.rule:=⟨_,rfl⟩
 obtain⟨ti,hti⟩:∃ ti,ti=gO com S i.facts:=⟨_,rfl⟩
 obtain⟨tj,htj⟩:∃ tj,tj=gO com S j.facts:=⟨_,rfl⟩
 rw[←hui,←huj,←hti,←htj]
 rw[←hui] at q1
 rw[←huj] at q2
 rw[←hti] at HLI
 rw[←htj] at HLJ
 obtain⟨fi,hfi2⟩:∃ fi,fi=bA i.facts:=⟨_,rfl⟩
 obtain⟨fj,hfj2⟩:∃ fj,fj=bA j.facts:=⟨_,rfl⟩
 rw[←hfi2] at HLI ⊢
 rw[←hfj2] at HLJ ⊢
 obtain⟨ri,hri⟩:∃ ri,ri=i.rule:=⟨_,rfl⟩
 obtain⟨rj,hrj⟩:∃ rj,rj=j.rule:=⟨_,rfl⟩
 rw[←hri] at HLI q1 hi ⊢
 rw[←hrj] at HLJ q2 hj ⊢
 generalize eI i.env 0=e0 at HLI ⊢
 generalize eI i.env 1=e1 at HLI ⊢
 generalize eI i.env 2=e2 at HLI ⊢
 generalize eI i.env 3=e3 at HLI ⊢
 generalize eI j.env 0=d0 at HLJ ⊢
 generalize eI j.env 1=d1 at HLJ ⊢
 generalize eI j.env 2=d2 at HLJ ⊢
 generalize eI j.env 3=d3 at HLJ ⊢
 obtain⟨r,hr⟩:∃ r,r=kh ui uj ti tj ri rj (E8 fi fj):=⟨_,rfl⟩
 rw[←hr]
 have HR:=af hr
 clear hr
 clear hE hA hk hfi hfj hyl hui huj hti htj hfi2 hfj2 hri hrj
 have i1:(0:Int)≤(ri:Int):=by omega
 have i2:(ri:Int)<R.length:=by omega
 have j1:(0:Int)≤(rj:Int):=by omega
 have j2:(rj:Int)<R.length:=by omega
 go_enter Tryz.func93,Tryz.ntmps93
 go_wp2_with fail
 go_quiet ((fail))
 go_wp2_with fail
 go_quiet ((fail))
 generalize hW0:World.drewN _ _=W0
 have HW0:Hid (w.grownBy W0 none∧W0.heap[w.heap.size]?=some (.cells #[.int .i64 ri,.int .i64 e0,.int .i64 e1,.int .i64 e2,.int .i64 e3,.string fi] 136 (0,0))∧W0.heap[w.heap.size+1]?=some (.cells #[.int .i64 rj,.int .i64 d0,.int .i64 d1,.int .i64 d2,.int .i64 d3,.string fj] 136 (0,0))):=af (by
  rw[←hW0]
  exact⟨al (al (ab (ab (ag _ _) _) _) _) _,(Below.heap_alloc _ _ _ (by simp)).trans (heap_alloc_new w _),gB (by simp)⟩)
 clear hW0 c0 q1 q2
 have HCI:Hid (∀ W,W0.grownBy W none→W.cell? ⟨w.heap.size,0,none⟩=some (.int .i64 ri)∧W.cell? ⟨w.heap.size,1,none⟩=some (.int .i64 e0)∧W.cell? ⟨w.heap.size,2,none⟩=some (.int .i64 e1)∧W.cell? ⟨w.heap.size,3,none⟩=some (.int .i64 e2)∧W.cell? ⟨w.heap.size,4,none⟩=some (.int .i64 e3)∧W.cell? ⟨w.heap.size,5,none⟩=some (.string fi)):=af (fun W hW=>by
  have hb:=(hW.block _ (lt_of_block HW0.out.2.1) (by simp)).trans HW0.out.2.1
  refine⟨?_,?_,?_,?_,?_,?_⟩ <;> (rw[cell_of_row _ _ _ _ _ _ hb];rfl))
 have HCJ:Hid (∀ W,W0.grownBy W none→W.cell? ⟨w.heap.size+1,0,none⟩=some (.int .i64 rj)∧W.cell? ⟨w.heap.size+1,1,none⟩=some (.int .i64 d0)∧W.cell? ⟨w.heap.size+1,2,none⟩=some (.int .i64 d1)∧W.cell? ⟨w.heap.size+1,3,none⟩=some (.int .i64 d2)∧W.cell? ⟨w.heap.size+1,4,none⟩=some (.int .i64 d3)∧W.cell? ⟨w.heap.size+1,5,none⟩=some (.string fj)):=af (fun W hW=>by
  have hb:=(hW.block _ (lt_of_block HW0.out.2.2) (by simp)).trans HW0.out.2.2
  refine⟨?_,?_,?_,?_,?_,?_⟩ <;> (rw[cell_of_row _ _ _ _ _ _ hb];rfl))
 have HG0:=af HW0.out.1
 clear HW0
 generalize w.heap.size=b at*
 by_cases hw:ui=uj
 ·have qw:(ui != uj)=false:=by simpa using hw
  have HRW:Hid (r=if ti≠tj then decide (ti>tj) else if ri≠rj then decide (ri<rj) else E8 fi fj):=af (by rw[HR.out];unfold kh;rw[if_neg (by simpa using hw)])
  obtain⟨k0,k1,k2,k3,k4,k5⟩:=HCI.out W0 (ag _ _)
  clear hw
  go_wp2_with fail
  go_at_call 116
  refine (HLI.out _ HG0.out).mono ?_
  rintro er w1 ⟨rfl,hg1⟩
  obtain⟨m0,m1,m2,m3,m4,m5⟩:=HCJ.out w1 hg1
  have HG1:=af hg1
  clear hg1 k0 k1 k2 k3 k4 k5
  go_wp2_with fail
  go_at_call 116
  refine (HLJ.out _ (ae HG0.out HG1.out)).mono ?_
  rintro er w2 ⟨rfl,hg2⟩
  have HG2:=af (ae HG1.out hg2)
  obtain⟨k0,_,_,_,_,k5⟩:=HCI.out w2 HG2.out
  obtain⟨p0,_,_,_,_,p5⟩:=HCJ.out w2 HG2.out
  clear hg2 m0 m1 m2 m3 m4 m5
  by_cases ht:ti=tj
  ·have qt:(ti != tj)=false:=by simpa using ht
   by_cases hr:(ri:Int)=rj
   ·have qr:((ri:Int) != (rj:Int))=false:=by simpa using hr
    have HRR:Hid (r=E8 fi fj):=af (by rw[HRW.out,if_neg (by simpa using ht),if_neg (by omega)])
    clear ht hr
    go_wp2_with fail
    go_ret
    exact⟨by rw[HRR.out];rfl,ae HG0.out HG2.out⟩
   ·have qr:((ri:Int) != (rj:Int))=true:=by simpa using hr
    have HRR:Hid (r=decide (ri<rj)):=af (by rw[HRW.out,if_neg (by simpa using ht),if_pos (by omega)])
    clear ht hr
    go_wp2_with fail
    go_ret
    exact⟨by rw[HRR.out];rfl,ae HG0.out HG2.out⟩
  ·have qt:(ti != tj)=true:=by simpa using ht
   have HRR:Hid (r=decide (ti>tj)):=af (by rw[HRW.out,if_pos (by simpa using ht)])
   clear ht
   go_wp2_with fail
   go_ret
   exact⟨by rw[HRR.out];rfl,ae HG0.out HG2.out⟩
 ·have qw:(ui != uj)=true:=by simpa using hw
  have HRR:Hid (r=decide (ui>uj)):=af (by rw[HR.out];unfold kh;rw[if_pos (by simpa using hw)])
  clear hw
  go_wp2_with fail
  go_ret
  exact⟨by rw[HRR.out];rfl,HG0.out⟩
end Go.Proofs.YthlhbjnkohinmaaGreat
