import Derived.Test.YthlhbjnkohinmaaGreatP48
import Derived.Test.YthlhbjnkohinmaaGreatP41
import Derived.Test.YthlhbjnkohinmaaGreatP43
import Derived.Test.YthlhbjnkohinmaaGreatP47
import Derived.Test.YthlhbjnkohinmaaGreatP36
namespace Go.Proofs.YthlhbjnkohinmaaGreat
set_option maxRecDepth 100000
set_option maxHeartbeats 8000000
open Go.RowKit
def cK (E:bn)(n:Int):(Int×Int)×bn:=match dw E.opn n with
 |none=>((0,6),E)
 |some S=>if d8 E S then ((0,10),dK E n) else if (aQ S.wr).isEmpty then ((0,0),dK E n) else if ((eo E (aQ S.wr).length).kept.length:Int)+(aQ S.wr).length>E.room then ((0,11),eo E (aQ S.wr).length) else (((E.com.length:Int)+1,0),dK ((eo E (aQ S.wr).length).commit (aQ S.wr)) n)
theorem nT {h:gw}{m t:Int}(hl:∀ p∈h,p.1≤m)(hm:m≤t):aN h t=aN h m:=by
 unfold aN
 have:∀ l:gw,(∀ p∈l,p.1≤m)→l.find? (fun p=>decide (p.1≤t))=l.find? (fun p=>decide (p.1≤m)):=by
  intro l hl
  cases l with
  |nil=>rfl
  |cons a r=>
   have:=hl a (by simp)
   rw[List.find?_cons,List.find?_cons,decide_eq_true (by omega),decide_eq_true (by omega)]
 rw[this _ (fun p hp=>hl p (by simpa using hp))]
def Bo (T:Int)(o:Option (Option Int)):gw:=match o with|some v=>[(T,v)]|none=>[]
theorem kR (T:Int)(wr:List Wr){c:Nat}(hc:c<60):∀ n,n≤60→dH ((cE wr n).map fun p=>(T,p)) c=if c<n then Bo T (bQ wr (ax c)) else []
 |0,_=>by simp[cE,dH]
 |n+1,hn=>by
  rw[ka,List.map_append,pY,kR T wr hc n (by omega)]
  cases h:cS wr n with
  |none=>
   simp only[Option.toList_none,List.map_nil]
   have e0:dH [] c=[]:=rfl
   rw[e0,List.append_nil]
   by_cases e:c<n
   ·rw[if_pos e,if_pos (by omega)]
   ·rw[if_neg e]
    by_cases e2:c<n+1
    ·have:c=n:=by omega
     subst this
     rw[if_pos e2]
     unfold cS at h
     unfold bQ
     simp only[Option.map_eq_none_iff] at h
     rw[h];rfl
    ·rw[if_neg e2]
  |some p=>
   have hp:=gY h
   simp only[Option.toList_some,List.map_cons,List.map_nil]
   have e0:dH [(T,p)] c=if p.1=ax c then [(T,lK p.2)] else []:=by
    unfold dH
    rw[List.filterMap_cons]
    by_cases e:p.1=ax c
    ·rw[if_pos e,if_pos e];rfl
    ·rw[if_neg e,if_neg e];rfl
   rw[e0,hp]
   by_cases e:c=n
   ·subst e
    rw[if_neg (by omega),if_pos rfl,if_pos (by omega),List.nil_append]
    unfold cS at h
    unfold bQ
    cases h1:bc (ax c) wr with
    |none=>rw[h1] at h;cases h
    |some k=>
     rw[h1] at h
     simp only[Option.map_some,Option.some.injEq] at h
     simp only[Option.map_some]
     rw[h]
     rfl
   ·rw[if_neg (show ¬ax n=ax c from fun he=>e (gU (by omega) hc he).symm),List.append_nil]
    by_cases e2:c<n
    ·rw[if_pos e2,if_pos (by omega)]
    ·rw[if_neg e2,if_neg (by omega)]
theorem lF {wr:List Wr}{p:Wr}(h:p∈aQ wr):∃ c k,c<60∧bc (ax c) wr=some k∧p=wr.getD k (ByteArray.empty,0)∧p.1=ax c∧p∈wr:=by
 unfold aQ cE at h
 obtain⟨c,hc,hm⟩:=List.mem_filterMap.mp h
 have hp:=gY hm
 unfold cS at hm
 cases h1:bc (ax c) wr with
 |none=>rw[h1] at hm;cases hm
 |some k=>
  rw[h1] at hm
  simp only[Option.map_some,Option.some.injEq] at hm
  have hl:=fQ h1
  refine⟨c,k,by simpa using hc,h1,hm.symm,hp,?_⟩
  rw[←hm]
  simp[List.getD,hl]
theorem EG {a b:Int}(ha:-1≤a)(hb:-1≤b)(h:lK a=lK b):a=b:=by
 unfold lK at h
 split at h <;> split at h
 ·omega
 ·cases h
 ·cases h
 ·simpa using h
theorem wI {com:List (List Wr)}{wr:List Wr}(hv:∀ q∈wr,-1≤q.2){p:Wr}(h:p∈aQ wr):dM (com++[aQ wr]) p.1 (com.length+1)=(p.2,(com.length:Int)+1):=by
 obtain⟨c,k,hc,hk,e,hp,hm⟩:=lF h
 rw[mP]
 have hl:bQ (aQ wr) (ax c)=bQ wr (ax c):=eN hc
 unfold bQ at hl
 rw[hk] at hl
 simp only[Option.map_some] at hl
 rw[hp]
 cases h1:bc (ax c) (aQ wr) with
 |none=>rw[h1] at hl;cases hl
 |some j=>
  rw[h1] at hl
  simp only[Option.map_some,Option.some.injEq] at hl
  simp only[]
  have hj:=fQ h1
  have hjm:(aQ wr).getD j (ByteArray.empty,0)∈aQ wr:=by simp[List.getD,hj]
  obtain⟨_,_,_,_,_,_,hm2⟩:=lF hjm
  rw[←e] at hl
  rw[EG (hv _ hm2) (hv _ hm) hl]
theorem EJ {com:List (List Wr)}{l:List Wr}{sn:Int}(h:sn≤com.length):fS (com++[l]) sn=fS com sn:=by
 funext c
 unfold fS
 rw[md]
 cases bQ l (ax c) with
 |none=>simp
 |some v=>rw[eK,if_neg (by simp only;omega)]
theorem dn.commits {i:Nat}{X:ap}{F:dP}{E:bn}(h:dn X F E)(hg:eU i X){n:Int}{j k:Nat}(hj:j<E.opn.length)(hf:aM X n=some k)(hfs:dw E.opn n=some E.opn[j])(hss:df (X.ses k) E.opn[j].nf)(hcl:clash X (X.ses k)=false)(hcl2:d8 E E.opn[j]=false)(hne:(aQ E.opn[j].wr).isEmpty=false)(hval:∀ q∈E.opn[j].wr,-1≤q.2):
  dn ((X.setSes k .zero).commit (X.ses k)) (cz X ((X.setSes k .zero).commit (X.ses k)) F) (dK (E.commit (aQ E.opn[j].wr)) n):=by
 obtain⟨l,hl⟩:∃ l,l=aQ E.opn[j].wr:=⟨_,rfl⟩
 have hpos:=fun S (hS:S∈E.opn)=>h.pos hS
 have hla:=h.latest
 have hw:∀ c,c<60→(X.ses k).wr c=bQ l (ax c):=fun c hc=>by
  rw[hl,eN hc]
  exact hss.wr c hc
 have hhist:∀ c,c<60→((X.setSes k .zero).commit (X.ses k)).hist c=X.hist c++Bo ((E.com.length:Int)+1) (bQ l (ax c)):=fun c hc=>by
  show (match (X.ses k).wr c with|some v=>X.hist c++[(X.latest+1,v)]|none=>X.hist c)=_
  rw[hw c hc,hla]
  cases bQ l (ax c) with
  |none=>simp[Bo]
  |some v=>rfl
 have hfull:∀ c,dA (E.com++[l]) c=dA E.com c++Bo ((E.com.length:Int)+1) (bQ l (ax c)):=fun c=>by
  rw[md]
  cases bQ l (ax c) <;> rfl
 rw[←hl] at hne ⊢
 obtain⟨lo,hh⟩:=h.his
 refine⟨?_,⟨lo,?_,fun S hS=>hh.snap S (List.mem_filter.mp hS).1,fun c hc t h1 h2=>?_⟩,⟨fun c hc=>?_,fun v hv=>?_,fun v hv=>?_⟩,fun S hS p hp hn=>?_⟩
 ·obtain⟨L,hs⟩:=h.sim
  obtain⟨_,L',h2⟩:=hs.commit n
  have e1:(jK (X.full E.com) n).2=((X.full E.com).setSes k .zero).commit (X.ses k):=by
   have a:aM (X.full E.com) n=some k:=hf
   have b:kH (X.ses k)=true:=by
    rw[tR hss]
    have:(aQ E.opn[j].nf.wr).isEmpty=false:=by
     show (aQ E.opn[j].wr).isEmpty=false
     rw[←hl];exact hne
    rw[this];rfl
   unfold jK
   rw[a]
   show (if kH (X.ses k) then (if clash X (X.ses k) then _ else _) else _:(Int×Int)×ap).2=_
   rw[b,hcl]
   rfl
  have e2:(lk E.nf n).2=dK (E.nf.commit l) n:=by
   have a:dw E.nf.opn n=some E.opn[j].nf:=by
    have:dw E.nf.opn n=(dw E.opn n).map bu.nf:=pL _ _
    rw[this,hfs];rfl
   unfold lk
   rw[a]
   show (if d8 E E.opn[j] then _ else if (aQ E.opn[j].wr).isEmpty then _ else _:(Int×Int)×bn).2=_
   rw[hcl2,←hl,hne]
   show dK (E.nf.commit (aQ E.opn[j].wr)) n=_
   rw[←hl]
  rw[e1,e2] at h2
  refine⟨L',h2.swap rfl rfl rfl rfl rfl (fun c hc=>?_) rfl rfl ?_ rfl ?_⟩
  ·show dA (E.com++[l]) c=(match (X.ses k).wr c with|some v=>dA E.com c++[(X.latest+1,v)]|none=>dA E.com c)
   rw[hfull,hw c hc,hla]
   cases bQ l (ax c) with
   |none=>simp[Bo]
   |some v=>rfl
  ·show (dK (E.commit l) n).nf.opn=(dK E.nf n).opn
   rw[yp]
   rfl
  ·show keptN (ap.full _ (E.com++[l])) 60=(List.replicate (sA (E.com++[l])) ((0:Int),((ByteArray.empty,0):Wr))).length
   rw[mi,List.length_replicate]
 ·show lo≤((E.com++[l]).length:Int)
  have:=hh.le
  simp
  omega
 ·have h2':t≤(E.com.length:Int)+1:=by
   have:t≤((E.com++[l]).length:Int):=h2
   simpa using this
  show e7 (aN (((X.setSes k .zero).commit (X.ses k)).hist c) t) (aN (dA (E.com++[l]) c) t)
  rw[hhist c hc,hfull]
  by_cases e:t≤E.com.length
  ·have hold:=hh.seen c hc t h1 e
   cases hlw:bQ l (ax c) with
   |none=>simpa [Bo] using hold
   |some v=>
    show e7 (aN (X.hist c++[((E.com.length:Int)+1,v)]) t) (aN (dA E.com c++[((E.com.length:Int)+1,v)]) t)
    rw[eK,eK,if_neg (by simp only;omega),if_neg (by simp only;omega)]
    exact hold
  ·have et:t=(E.com.length:Int)+1:=by omega
   cases hlw:bQ l (ax c) with
   |none=>
    have hold:=hh.seen c hc E.com.length hh.le (Int.le_refl _)
    show e7 (aN (X.hist c++[]) t) (aN (dA E.com c++[]) t)
    rw[List.append_nil,List.append_nil,nT (m:=E.com.length) (fun p hp=>by have:=(hg.his c p hp).1;omega) (by omega),nT (h:=dA E.com c) (m:=E.com.length) (fun p hp=>(lE hp).2) (by omega)]
    exact hold
   |some v=>
    show e7 (aN (X.hist c++[((E.com.length:Int)+1,v)]) t) (aN (dA E.com c++[((E.com.length:Int)+1,v)]) t)
    rw[eK,eK,if_pos (by simp only;omega),if_pos (by simp only;omega)]
    exact .refl _
 ·rw[hhist c hc,h.kept.hist c hc]
  show _=dH (E.kept++l.map fun p=>((E.com.length:Int)+1,p)) c
  rw[pY]
  congr 1
  have:=kR ((E.com.length:Int)+1) E.opn[j].wr hc 60 (Nat.le_refl _)
  rw[if_pos hc] at this
  have e:cE E.opn[j].wr 60=l:=hl.symm
  rw[e] at this
  rw[this,hl,eN hc]
 ·have hv':v∈E.kept++l.map fun p=>((E.com.length:Int)+1,p):=hv
  rcases List.mem_append.mp hv' with hv'|hv'
  ·exact h.kept.cell v hv'
  ·obtain⟨p,hp,rfl⟩:=List.mem_map.mp hv'
   rw[hl] at hp
   obtain⟨c,_,hc,_,_,e,_⟩:=lF hp
   exact⟨c,hc,e⟩
 ·have hv':v∈E.kept++l.map fun p=>((E.com.length:Int)+1,p):=hv
  show 1≤v.1∧v.1≤((E.com++[l]).length:Int)∧dM (E.com++[l]) v.2.1 v.1.toNat=(v.2.2,v.1)
  rcases List.mem_append.mp hv' with hv'|hv'
  ·obtain⟨w1,w2,w3⟩:=h.kept.was v hv'
   refine⟨w1,by simp;omega,?_⟩
   rw[jW _ _ _ _ (by omega)]
   exact w3
  ·obtain⟨p,hp,rfl⟩:=List.mem_map.mp hv'
   refine⟨by simp only;omega,by simp,?_⟩
   have e:((E.com.length:Int)+1).toNat=E.com.length+1:=by omega
   simp only[e]
   rw[hl] at hp ⊢
   exact wI hval hp
 ·have hS0:S∈E.opn:=(List.mem_filter.mp hS).1
  have hd:=h.fire.drop (fun S hS=>(hpos S hS).1) k n S hS p hp hn
  obtain⟨Rs,g1,g2,g3,g4⟩:=hd
  have hsn:fS (E.com++[l]) S.snap=fS E.com S.snap:=EJ (hpos S hS0).2.2.2
  refine⟨Rs,g1,g2,?_,?_⟩
  ·show no _ (fS (E.com++[l]) S.snap)
   rw[hsn]
   exact g3
  ·show iU _ _ _ (fS (E.com++[l]) S.snap) Rs
   rw[hsn]
   exact g4
theorem dn.commit {i:Nat}{X:ap}{F:dP}{E:bn}(h:dn X F E)(hg:eU i X)(hval:∀ S∈E.opn,∀ q∈S.wr,-1≤q.2)(n:Int):(bI X n).1=(cK E n).1∧dn (bI X n).2 (cz X (bI X n).2 F) (cK E n).2:=by
 have hla:=h.latest
 have hro:=h.room
 have hpos:=fun S (hS:S∈E.opn)=>h.pos hS
 have hdrop:∀ k,aM X n=some k→∀ jj,eH E.opn n=some jj→dn (X.setSes k .zero) (cz X (X.setSes k .zero) F) (dK E n):=fun k hk jj hjj=>by
  have:=(h.abort n).2
  have a1:(aY X n).2=X.setSes k .zero:=by unfold aY;rw[hk]
  have a2:(cV E n).2=dK E n:=by unfold cV;rw[hjj]
  rw[a1,a2] at this
  exact this
 unfold bI cK
 rcases h.find n with ⟨e1,_,e2⟩|⟨j,k,hj,hk8,hn,hkn,e1,e3,e2,hss,hcl⟩
 ·rw[e1,e2,gh]
  exact⟨rfl,h⟩
 ·rw[e1,e2]
  have hS:=List.getElem_mem hj
  simp only[]
  have hw:kH (X.ses k)=!(aQ E.opn[j].wr).isEmpty:=tR (S:=E.opn[j].nf) hss
  have hwn:cw (X.ses k) 60=(aQ E.opn[j].wr).length:=kw (S:=E.opn[j].nf) hss 60 (Nat.le_refl _)
  rw[hw,hcl,hwn]
  cases he:(aQ E.opn[j].wr).isEmpty with
  |true=>
   have hr:d8 E E.opn[j]=false:=by
    unfold d8
    rw[List.isEmpty_iff.mp he]
    rfl
   rw[hr]
   exact⟨rfl,hdrop k e1 j e3⟩
  |false=>
   cases hr:d8 E E.opn[j] with
   |true=>exact⟨rfl,hdrop k e1 j e3⟩
   |false=>
    simp only[Bool.not_false,if_true,Bool.false_eq_true,if_false]
    obtain⟨m,hm⟩:∃ m,m=(aQ E.opn[j].wr).length:=⟨_,rfl⟩
    rw[←hm]
    have hkl:=h.kept.len
    by_cases hfit:((keptN X 60+m:Nat):Int)≤X.room
    ·have r1:cL X m=(true,X):=by unfold cL;rw[if_pos hfit]
     have r2:eo E m=E:=by
      unfold eo
      rw[if_neg]
      rw[←hkl,←hro]
      omega
     rw[r1,r2]
     simp only[if_true]
     rw[if_neg (by rw[←hkl,←hro];omega)]
     refine⟨by rw[hla],h.commits hg hj e1 e2 hss (hcl.trans hr) hr he (hval _ hS)⟩
    ·have r1:cL X m=(decide (((keptN (X.swept (cP X 8)) 60+m:Nat):Int)≤X.room),X.swept (cP X 8)):=by unfold cL;rw[if_neg hfit]
     have r2:eo E m=(dZ E).2:=by
      unfold eo
      rw[if_pos]
      rw[←hkl,←hro]
      omega
     have hsw:=(h.sweep hg).2
     have hkl2:=hsw.kept.len
     have hX1:(cn X).2=X.swept (cP X 8):=rfl
     rw[hX1] at hsw hkl2
     rw[r1,r2]
     simp only[]
     by_cases hfit2:((keptN (X.swept (cP X 8)) 60+m:Nat):Int)≤X.room
     ·rw[decide_eq_true hfit2,if_pos rfl,if_neg (by rw[←hkl2,←hro];omega)]
      refine⟨by rw[hla],?_⟩
      have hc:=hsw.commits (hg.swept _) (n:=n) (k:=k) (j:=j) hj e1 e2 hss (hcl.trans hr) hr he (hval _ hS)
      exact hc
     ·rw[decide_eq_false hfit2]
      simp only[Bool.false_eq_true,if_false]
      rw[if_pos (show ((dZ E).2.kept.length:Int)+m>E.room by rw[←hkl2,←hro];omega)]
      refine⟨rfl,?_⟩
      have:cz X (X.swept (cP X 8)) F=F:=by
       funext q
       unfold cz
       rw[if_pos (show ((X.swept (cP X 8)).ses q).num=(X.ses q).num from rfl)]
      rw[this]
      exact hsw
theorem Aq {s:ByteArray}{R:List ay}(h:cC s 0 0 (some R)):∀ r∈R,l9 s r.2.1 r.2.2=false:=by
 rcases h with ⟨_,h,_,_⟩|⟨_,_,_,_,h,_⟩|⟨_,_,_,_,_,_,h,_⟩|⟨_,_,_,_,_,_,_,h,_⟩|⟨R',j,h1,h2,h3,h4,_,_,h5⟩
 ·cases h
 ·cases h
 ·cases h
 ·cases h
 ·cases h5
  intro r hr
  obtain⟨k,hk,e⟩:=List.getElem_of_mem hr
  cases hb:l9 s r.2.1 r.2.2 with
  |false=>rfl
  |true=>
   refine absurd ⟨hk,?_⟩ (h4 k hk)
   rw[e]
   exact hb
theorem nZ {s:ByteArray}{e:fu}{a:Nat}{bs:Nat→Bool}(hs:be (bt s a)=true)(hb:∀ n:Nat,bs n=true→(e n).isSome=true)(hl:fe bs (dy (bt s a)) (dE (bt s a))=false):lq (-1) s e a=lq 0 s e a:=by
 unfold lq
 rw[nU hs (fun hk=>hb _ ?_)]
 unfold fe at hl
 rw[decide_eq_true hk] at hl
 simpa using hl
theorem xH {s:ByteArray}{e:fu}{p:Nat}{bs:Nat→Bool}(hok:cT s p=true)(h46:bt s p≠46)(hb:∀ n:Nat,bs n=true→(e n).isSome=true)(hl:ju s p bs=false):j9 (-1) s e p=j9 0 s e p:=by
 unfold cT at hok
 unfold ju at hl
 rw[Bool.or_eq_false_iff] at hl
 unfold j9
 by_cases h43:bt s p=43
 ·rw[if_pos h43] at hok
  have ev:eh s p=wK s (p+1):=by unfold eh;rw[if_pos h43]
  rw[ev] at hl
  unfold fJ at hok
  simp only[Bool.and_eq_true] at hok
  rw[if_pos h43,if_pos h43,nZ (a:=p+2) hok.1.2 hb hl.1,nZ (a:=db s (p+2)) hok.2 hb hl.2]
 ·rw[if_neg h43] at hok
  by_cases h45:bt s p=45
  ·rw[if_pos h45] at hok
   have ev:eh s p=wo s (p+1):=by unfold eh;rw[if_neg h43,if_pos h45]
   rw[ev] at hl
   unfold gm at hok
   simp only[Bool.and_eq_true] at hok
   rw[if_neg h43,if_neg h43,nZ (a:=p+2) hok.2 hb hl.1]
  ·rw[if_neg h45] at hok
   exact absurd (by simpa using hok) h46
theorem xJ {s:ByteArray}{e:fu}{bs:Nat→Bool}(hb:∀ n:Nat,bs n=true→(e n).isSome=true){K:List Nat}(hok:∀ p∈K,cT s p=true)(hl:ix s K bs=false):iB (-1) s e K=gb s e K:=by
 rw[←FY]
 unfold iB
 have:∀ (l:List Nat) (o:Option (List (Nat×Option Int)×Bool)),(∀ p∈l,cT s p=true∧ju s p bs=false)→l.foldl (fun o p=>o.bind fun q=>if bt s p=46 then some (q.1,true) else (j9 (-1) s e p).map fun x=>(q.1++[x],q.2)) o=l.foldl (fun o p=>o.bind fun q=>if bt s p=46 then some (q.1,true) else (j9 0 s e p).map fun x=>(q.1++[x],q.2)) o:=by
  intro l
  induction l with
  |nil=>intro o _;rfl
  |cons p l ih=>
   intro o h
   rw[List.foldl_cons,List.foldl_cons]
   obtain⟨h1,h2⟩:=h p (by simp)
   have e1:(o.bind fun q=>if bt s p=46 then some (q.1,true) else (j9 (-1) s e p).map fun x=>(q.1++[x],q.2))=(o.bind fun q=>if bt s p=46 then some (q.1,true) else (j9 0 s e p).map fun x=>(q.1++[x],q.2)):=by
    congr 1
    funext q
    by_cases h46:bt s p=46
    ·rw[if_pos h46,if_pos h46]
    ·rw[if_neg h46,if_neg h46,xH h1 h46 hb h2]
   rw[e1]
   exact ih _ (fun q hq=>h q (by simp[hq]))
 refine this K _ (fun p hp=>⟨hok p hp,?_⟩)
 unfold ix at hl
 rw[List.any_eq_false] at hl
 simpa using hl p hp
structure gg (s:ByteArray)(R:List ay):Prop where
 all:yw s R
 prog:ou s R
 unb:∀ r∈R,l9 s r.2.1 r.2.2=false
theorem vd {s:ByteArray}{R:List ay}(h:cC s 0 0 (some R)):gg s R:=⟨yj h,vq h,Aq h⟩
def aD (s:ByteArray)(R:List ay)(i:In):uf:=iB (-1) s i.env (R.getD i.rule (0,[],[])).2.2
theorem xP {s:ByteArray}{R:List ay}(hR:gg s R){F:List aw}{i:In}(h:i∈bA 0 s F R R.length):aD s R i=gb s i.env (R.getD i.rule (0,[],[])).2.2:=by
 unfold bA at h
 obtain⟨k,hk,hm⟩:=List.mem_flatMap.mp h
 have hk':k<R.length:=by simpa using hk
 have e:R.getD k (0,[],[])=R[k]:=by simp[List.getD,List.getElem?_eq_getElem hk']
 have er:i.rule=k:=by
  have hm2:=hm
  unfold dC at hm2
  exact (qF (R.getD k (0,[],[])).2.1 [] [In.start k] (fun j hj=>by rw[List.mem_singleton] at hj;rw[hj];exact⟨rfl,rfl⟩) i hm2).1
 rw[e] at hm
 have hr:=List.getElem_mem hk'
 obtain⟨_,bs,hcb,hbs⟩:=mw (F:=F) (r:=k) (hR.all.walk _ hr).conds (hR.all.bound _ hr) R[k].2.1.length (Nat.le_refl _)
 rw[List.take_length] at hcb
 have hu:=hR.unb _ hr
 unfold l9 at hu
 rw[hcb] at hu
 rw[←jM] at hm
 unfold aD
 rw[er,e]
 exact xJ (hbs i hm) (hR.prog.acts _ hr).1 hu
theorem iG (com:List (List Wr))(c:Nat):∀ t:Nat,t≤com.length→aN (dA com c) t=((dM com (ax c) t).2,lK (dM com (ax c) t).1):=by
 induction com using pJ with
 |h0=>
  intro t ht
  have:t=0:=by simpa using ht
  subst this
  rfl
 |h1 com l ih=>
  intro t ht
  rw[List.length_append,List.length_singleton] at ht
  rw[md]
  by_cases e:t=com.length+1
  ·subst e
   rw[mP]
   unfold bQ
   cases h1:bc (ax c) l with
   |some k=>
    simp only[Option.map_some]
    rw[eK,if_pos (by simp)]
   |none=>
    simp only[Option.map_none,List.append_nil]
    rw[←ih com.length (Nat.le_refl _)]
    exact nT (m:=com.length) (fun p hp=>(lE hp).2) (by omega)
  ·rw[jW _ _ _ _ (by omega),←ih t (by omega)]
   cases bQ l (ax c) with
   |none=>simp
   |some v=>rw[eK,if_neg (by simp only;omega)]
def Ae (S:bu):aJ:=⟨S.num,S.snap,S.wr.length,fun c=>bQ S.wr (ax c),fun c=>match bc (ax c) S.wr with|some k=>S.snap+((k:Int)+1)|none=>0,none⟩
theorem D3 {P:aJ}{S:bu}(h:df P S.nf)(f:Nat→Int×Option Int):dk P f 60=dk (Ae S) f 60:=by
 unfold dk
 apply dJ
 intro c hc
 have hc60:c<60:=by simpa using hc
 congr 1
 unfold cN
 have hw:P.wr c=bQ S.wr (ax c):=h.wr c hc60
 rw[hw]
 show _=match bQ S.wr (ax c) with|some v=>v.map fun u=>(u,(Ae S).tm c)|none=>(f c).2.map fun v=>(v,(f c).1)
 unfold bQ
 cases hl:bc (ax c) S.wr with
 |none=>rfl
 |some k=>
  have ht:=h.tm c hc60 k hl
  simp only[Option.map_some]
  have e:(Ae S).tm c=S.snap+((k:Int)+1):=by
   show (match bc (ax c) S.wr with|some k=>S.snap+((k:Int)+1)|none=>0)=_
   rw[hl]
  rw[e,ht]
  rfl
def fq (com:List (List Wr))(S:bu):List aw:=dk (Ae S) (fS com S.snap) 60
def Ft (com:List (List Wr))(S:bu):In→Bool:=fun i=>yf S.fired (jc com S i)
def mD (s:ByteArray)(R:List ay)(com:List (List Wr))(S:bu):List In:=bL (i9 (ep s R)) (jx s (fq com S) R (Ft com S) R.length)
theorem qx {α β:Type}{f g:β→α→β}:∀ {l:List α} (b:β),(∀ x∈l,∀ b,f b x=g b x)→l.foldl f b=l.foldl g b
 |[],_,_=>rfl
 |a::l,b,h=>by
  rw[List.foldl_cons,List.foldl_cons,h a (by simp)]
  exact qx _ (fun x hx=>h x (by simp[hx]))
theorem Cs {com:List (List Wr)}{S:bu}(h0:0≤S.snap)(h1:S.snap≤com.length){i:In}(hi:∀ q∈i.facts,q∈fq com S):jc com S i=mA S.snap i:=by
 unfold jc mA
 refine qx _ (fun q hq b=>?_)
 congr 1
 obtain⟨_,hs⟩:=yU (hi q hq)
 unfold cN at hs
 unfold kI B6
 have hwr:(Ae S).wr q.1=bQ S.wr (ax q.1):=rfl
 rw[hwr] at hs
 unfold bQ at hs
 cases hl:bc (ax q.1) S.wr with
 |some k=>
  rw[hl] at hs
  simp only[Option.map_some] at hs
  have e:(Ae S).tm q.1=S.snap+((k:Int)+1):=by
   show (match bc (ax q.1) S.wr with|some k=>S.snap+((k:Int)+1)|none=>0)=_
   rw[hl]
  obtain⟨u,_,hu⟩:=Option.map_eq_some_iff.mp hs
  have ht:q.2.2=S.snap+((k:Int)+1):=by rw[←hu];exact e
  simp only[]
  rw[if_pos (by omega)]
  have:(q.2.2 - S.snap - 1).toNat=k:=by omega
  rw[this]
 |none=>
  rw[hl] at hs
  simp only[Option.map_none] at hs
  obtain⟨u,_,hu⟩:=Option.map_eq_some_iff.mp hs
  have hv:=iG com q.1 S.snap.toNat (by omega)
  have e0:((S.snap.toNat:Nat):Int)=S.snap:=Int.toNat_of_nonneg h0
  rw[e0] at hv
  have ht:q.2.2=(dM com (ax q.1) S.snap.toNat).2:=by
   rw[←hu]
   show (aN (dA com q.1) S.snap).1=_
   rw[hv]
  have hb:=ow com (ax q.1) S.snap.toNat
  simp only[]
  rw[if_neg (by omega),ht]
structure iA (s:ByteArray)(R:List ay)(com:List (List Wr))(sn:Int)(P:aJ)(fm:Nat→Option Int)(S:bu):Prop where
 ses:df P S.nf
 fire:kD s R com P fm S
 ok:yv P (fS com sn)
 snap:S.snap=sn
 lo:0≤sn
 hi:sn≤com.length
theorem iA.saw {s:ByteArray}{R:List ay}{com:List (List Wr)}{sn:Int}{P:aJ}{fm:Nat→Option Int}{S:bu}(h:iA s R com sn P fm S):dk P (fS com sn) 60=fq com S:=by
 unfold fq
 rw[h.snap]
 exact D3 h.ses _
theorem pW {s:ByteArray}{F:List aw}{R:List ay}(hF:re F){i:In}(h:i∈bA 0 s F R R.length):∀ q∈i.facts,q∈F:=by
 unfold bA at h
 obtain⟨k,_,hm⟩:=List.mem_flatMap.mp h
 exact (pB hF k _ i hm).facts
theorem yc {sn:Int}{r i:In}(h1:r.rule=i.rule)(h2:r.facts=i.facts):mA sn r=mA sn i:=by
 unfold mA fT
 rw[h1,h2]
theorem Dl {l:List ByteArray}{k:ByteArray}:yf l k=true↔k∈l:=by
 unfold yf
 rw[List.any_eq_true]
 constructor
 ·rintro⟨t,ht,e⟩
  have e1:t.toList=k.toList:=by simpa using e
  rw[ByteArray.toList_eq,ByteArray.toList_eq] at e1
  have:t=k:=ByteArray.ext (Array.ext' e1)
  rw[←this]
  exact ht
 ·intro h
  exact⟨k,h,by simp⟩
theorem iA.facts {s:ByteArray}{R:List ay}{com:List (List Wr)}{sn:Int}{P:aJ}{fm:Nat→Option Int}{S:bu}(h:iA s R com sn P fm S):re (fq com S):=by
 rw[←h.saw]
 exact h.ok.facts
theorem iA.one {s:ByteArray}{R:List ay}{com:List (List Wr)}{sn:Int}{P:aJ}{fm:Nat→Option Int}{S:bu}(h:iA s R com sn P fm S)(hR:gg s R){i:In}(hi:i∈bA 0 s (fq com S) R R.length):pE s R i∧Dj i.facts∧(∀ q∈i.facts,cN P (fS com sn) q.1=some q.2)∧jc com S i=mA sn i:=by
 have hF:=h.facts
 have hm:=pW hF hi
 obtain⟨Rs,_,_,ht,_⟩:=h.fire
 rw[h.snap] at ht
 have hsn:∀ q∈i.facts,cN P (fS com sn) q.1=some q.2:=fun q hq=>by
  have:=hm q hq
  rw[←h.saw] at this
  exact (yU this).2
 refine⟨xS hF (iC _ _ _) hR.all.walk hi,fun q hq=>?_,hsn,?_⟩
 ·have h1:=hF q (hm q hq)
  have h2:=n9 ht (hsn q hq)
  exact⟨h1.1,h1.2.1,h1.2.2,by omega⟩
 ·have:=Cs (by rw[h.snap];exact h.lo) (by rw[h.snap];exact h.hi) hm
  rw[h.snap] at this
  exact this
theorem iA.fd {s:ByteArray}{R:List ay}{com:List (List Wr)}{sn:Int}{P:aJ}{fm:Nat→Option Int}{S:bu}(h:iA s R com sn P fm S)(hR:gg s R){i:In}(hi:i∈bA 0 s (fq com S) R R.length):Ft com S i=wA fm i:=by
 obtain⟨h1,h2,h3,h4⟩:=h.one hR hi
 obtain⟨Rs,e1,e2,ht,hf⟩:=h.fire
 rw[h.snap] at e1 ht hf
 have hiff:=EN hf ht h1 h3
 rw[←e2] at hiff
 rw[Bool.eq_iff_iff,hiff]
 unfold Ft
 rw[Dl,h4,e1,List.mem_map]
 constructor
 ·rintro⟨r,hr,hk⟩
  have h9:=hR.all.nine
  have hs1:=(hf.shape r hr).1
  have hs2:=h1.1
  obtain⟨a,b⟩:=Du (hf.facts r hr) h2 (by omega) (by omega) hk
  exact⟨r,hr,a,b⟩
 ·rintro⟨r,hr,a,b⟩
  exact⟨r,hr,yc a b⟩
theorem iA.open {s:ByteArray}{R:List ay}{com:List (List Wr)}{sn:Int}{P:aJ}{fm:Nat→Option Int}{S:bu}(h:iA s R com sn P fm S)(hR:gg s R):bL (i9 (ep s R)) (jx s (dk P (fS com sn) 60) R (wA fm) R.length)=mD s R com S:=by
 unfold mD
 rw[h.saw]
 congr 1
 unfold jx
 refine List.filter_congr (fun i hi=>?_)
 rw[h.fd hR hi]
theorem tN {s:ByteArray}{R:List ay}{com:List (List Wr)}{S:bu}{i:In}(h:i∈mD s R com S):i∈bA 0 s (fq com S) R R.length:=(List.mem_filter.mp (lz.mp h)).1
theorem iA.fst {s:ByteArray}{R:List ay}{com:List (List Wr)}{sn:Int}{P:aJ}{fm:Nat→Option Int}{S:bu}(h:iA s R com sn P fm S)(hR:gg s R):jX s R (fS com sn) P fm=(mD s R com S).head?:=by
 unfold jX gK
 rw[h.open hR]
theorem iA.step {s:ByteArray}{R:List ay}{com:List (List Wr)}{sn:Int}{P:aJ}{fm:Nat→Option Int}{S:bu}(h:iA s R com sn P fm S)(hR:gg s R){i:In}(hi:i∈bA 0 s (fq com S) R R.length){q:List (Nat×Option Int)×Bool}(hq:gb s i.env (R.getD i.rule (0,[],[])).2.2=some q):
  iA s R com sn (puts P q.1) (cI fm (bW i) (some (b9 i.facts))) (S.fire (jc com S i) q.1):=by
 obtain⟨h1,h2,h3,h4⟩:=h.one hR hi
 obtain⟨Rs,e1,e2,ht,hf⟩:=h.fire
 rw[h.snap] at e1 ht hf
 have hr:i.rule<R.length:=h1.1
 have e:R.getD i.rule (0,[],[])=R[i.rule]:=by simp[List.getD,List.getElem?_eq_getElem hr]
 rw[e] at hq
 have hdig:=nh (hR.prog.acts _ (List.getElem_mem hr)).1 _ (Nat.le_refl _) q (by rw[List.take_length];exact hq)
 refine⟨h.ses.puts q.1 hdig,⟨Rs++[i],?_,?_,?_,?_⟩,h.ok.puts (fun x hx=>(hdig x hx).2),h.snap,h.lo,h.hi⟩
 ·show S.fired++[jc com S i]=(Rs++[i]).map (mA S.snap)
  rw[List.map_append,h.snap,e1,h4]
  rfl
 ·rw[n8,e2]
 ·show no _ (fS com S.snap)
  rw[h.snap]
  exact ht.puts q.1
 ·show iU s R _ (fS com S.snap) _
  rw[h.snap]
  exact (hf.fire ht h1 h2 h3).puts q.1
theorem vH {s:ByteArray}{R:List ay}{com:List (List Wr)}{sn:Int}(hR:gg s R):∀ (n:Nat) {P:aJ} {fm:Nat→Option Int} {S:bu},iA s R com sn P fm S→
  (de (mD s R com) (aD s R) (jc com) n S).1=(((cW s R (fS com sn) n P fm).1.1:Int),(cW s R (fS com sn) n P fm).1.2)∧iA s R com sn (cW s R (fS com sn) n P fm).2.1 (cW s R (fS com sn) n P fm).2.2 (de (mD s R com) (aD s R) (jc com) n S).2
 |0,P,fm,S,h=>by
  have hf:=h.fst hR
  unfold de cW
  rw[hf]
  cases hm:mD s R com S with
  |nil=>exact⟨rfl,h⟩
  |cons i l=>exact⟨rfl,h⟩
 |n+1,P,fm,S,h=>by
  have hf:=h.fst hR
  unfold de cW
  rw[hf]
  cases hm:mD s R com S with
  |nil=>exact⟨rfl,h⟩
  |cons i l=>
   have hi:i∈bA 0 s (fq com S) R R.length:=tN (s:=s) (R:=R) (com:=com) (S:=S) (by rw[hm];simp)
   have ha:=xP hR hi
   simp only[List.head?_cons]
   rw[ha]
   cases ho:gb s i.env (R.getD i.rule (0,[],[])).2.2 with
   |none=>exact⟨rfl,h⟩
   |some q=>
    simp only[]
    have hst:=h.step hR hi ho
    cases hq:q.2 with
    |true=>exact⟨rfl,hst⟩
    |false=>
     obtain⟨i1,i2⟩:=vH hR n hst
     simp only[Bool.false_eq_true,if_false]
     refine⟨?_,i2⟩
     rw[i1]
     simp
end Go.Proofs.YthlhbjnkohinmaaGreat
