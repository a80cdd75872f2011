import Derived.Test.YthlhbjnkohinmaaGreatP48
import Derived.Test.YthlhbjnkohinmaaGreatP41
import Derived.Test.YthlhbjnkohinmaaGreatP43
import Derived.Test.YthlhbjnkohinmaaGreatP47
import Derived.Test.YthlhbjnkohinmaaGreatP36
namespace Go.Proofs.YthlhbjnkohinmaaGreat
set_option maxRecDepth 100000
set_option maxHeartbeats 8000000
open Go.RowKit
def cH (E:bm)(n:Int):(Int×Int)×bm:=match du E.opn n with
 |none=>((0,6),E)
 |some S=>if d9 E S then ((0,10),dF E n) else if (aQ S.wr).isEmpty then ((0,0),dF E n) else if ((ed E (aQ S.wr).length).kept.length:Int)+(aQ S.wr).length>E.room then ((0,11),ed E (aQ S.wr).length) else (((E.com.length:Int)+1,0),dF ((ed E (aQ S.wr).length).commit (aQ S.wr)) n)
theorem nU {h:gu}{m t:Int}(hl:∀ p∈h,p.1≤m)(hm:m≤t):aN h t=aN h m:=by
 unfold aN
 have:∀ l:gu,(∀ p∈l,p.1≤m)→l.find? (fun p=>decide (p.1≤t))=l.find? (fun p=>decide (p.1≤m)):=by
  intro l hl
  cases l with
  |nil=>rfl
  |cons a r=>
   have:=hl a (by simp)
   rw[List.find?_cons,List.find?_cons,decide_eq_true (by omega),decide_eq_true (by omega)]
 rw[this _ (fun p hp=>hl p (by simpa using hp))]
def AH (T:Int)(o:Option (Option Int)):gu:=match o with|some v=>[(T,v)]|none=>[]
theorem kS (T:Int)(wr:List Wr){c:Nat}(hc:c<60):∀ n,n≤60→dH ((cE wr n).map fun p=>(T,p)) c=if c<n then AH T (bQ wr (ax c)) else []
 |0,_=>by simp[cE,dH]
 |n+1,hn=>by
  rw[km,List.map_append,qN,kS T wr hc n (by omega)]
  cases h:cP wr n with
  |none=>
   simp only[Option.toList_none,List.map_nil]
   have e0:dH [] c=[]:=rfl
   rw[e0,List.append_nil]
   by_cases e:c<n
   ·rw[if_pos e,if_pos (by omega)]
   ·rw[if_neg e]
    by_cases e2:c<n+1
    ·have:c=n:=by omega
     subst this
     rw[if_pos e2]
     unfold cP at h
     unfold bQ
     simp only[Option.map_eq_none_iff] at h
     rw[h];rfl
    ·rw[if_neg e2]
  |some p=>
   have hp:=gX h
   simp only[Option.toList_some,List.map_cons,List.map_nil]
   have e0:dH [(T,p)] c=if p.1=ax c then [(T,lH p.2)] else []:=by
    unfold dH
    rw[List.filterMap_cons]
    by_cases e:p.1=ax c
    ·rw[if_pos e,if_pos e];rfl
    ·rw[if_neg e,if_neg e];rfl
   rw[e0,hp]
   by_cases e:c=n
   ·subst e
    rw[if_neg (by omega),if_pos rfl,if_pos (by omega),List.nil_append]
    unfold cP at h
    unfold bQ
    cases h1:bc (ax c) wr with
    |none=>rw[h1] at h;cases h
    |some k=>
     rw[h1] at h
     simp only[Option.map_some,Option.some.injEq] at h
     simp only[Option.map_some]
     rw[h]
     rfl
   ·rw[if_neg (show ¬ax n=ax c from fun he=>e (gQ (by omega) hc he).symm),List.append_nil]
    by_cases e2:c<n
    ·rw[if_pos e2,if_pos (by omega)]
    ·rw[if_neg e2,if_neg (by omega)]
theorem lE {wr:List Wr}{p:Wr}(h:p∈aQ wr):∃ c k,c<60∧bc (ax c) wr=some k∧p=wr.getD k (ByteArray.empty,0)∧p.1=ax c∧p∈wr:=by
 unfold aQ cE at h
 obtain⟨c,hc,hm⟩:=List.mem_filterMap.mp h
 have hp:=gX hm
 unfold cP at hm
 cases h1:bc (ax c) wr with
 |none=>rw[h1] at hm;cases hm
 |some k=>
  rw[h1] at hm
  simp only[Option.map_some,Option.some.injEq] at hm
  have hl:=fP h1
  refine⟨c,k,by simpa using hc,h1,hm.symm,hp,?_⟩
  rw[←hm]
  simp[List.getD,hl]
theorem ER {a b:Int}(ha:-1≤a)(hb:-1≤b)(h:lH a=lH b):a=b:=by
 unfold lH at h
 split at h <;> split at h
 ·omega
 ·cases h
 ·cases h
 ·simpa using h
theorem xA {com:List (List Wr)}{wr:List Wr}(hv:∀ q∈wr,-1≤q.2){p:Wr}(h:p∈aQ wr):dK (com++[aQ wr]) p.1 (com.length+1)=(p.2,(com.length:Int)+1):=by
 obtain⟨c,k,hc,hk,e,hp,hm⟩:=lE h
 rw[mR]
 have hl:bQ (aQ wr) (ax c)=bQ wr (ax c):=eH hc
 unfold bQ at hl
 rw[hk] at hl
 simp only[Option.map_some] at hl
 rw[hp]
 cases h1:bc (ax c) (aQ wr) with
 |none=>rw[h1] at hl;cases hl
 |some j=>
  rw[h1] at hl
  simp only[Option.map_some,Option.some.injEq] at hl
  simp only[]
  have hj:=fP h1
  have hjm:(aQ wr).getD j (ByteArray.empty,0)∈aQ wr:=by simp[List.getD,hj]
  obtain⟨_,_,_,_,_,_,hm2⟩:=lE hjm
  rw[←e] at hl
  rw[ER (hv _ hm2) (hv _ hm) hl]
theorem D3 {com:List (List Wr)}{l:List Wr}{sn:Int}(h:sn≤com.length):fS (com++[l]) sn=fS com sn:=by
 funext c
 unfold fS
 rw[mg]
 cases bQ l (ax c) with
 |none=>simp
 |some v=>rw[eJ,if_neg (by simp only;omega)]
theorem dm.commits {i:Nat}{X:ap}{F:dN}{E:bm}(h:dm X F E)(hg:eO i X){n:Int}{j k:Nat}(hj:j<E.opn.length)(hf:aM X n=some k)(hfs:du E.opn n=some E.opn[j])(hss:dd (X.ses k) E.opn[j].nf)(hcl:clash X (X.ses k)=false)(hcl2:d9 E E.opn[j]=false)(hne:(aQ E.opn[j].wr).isEmpty=false)(hval:∀ q∈E.opn[j].wr,-1≤q.2):
  dm ((X.setSes k .zero).commit (X.ses k)) (cy X ((X.setSes k .zero).commit (X.ses k)) F) (dF (E.commit (aQ E.opn[j].wr)) n):=by
 obtain⟨l,hl⟩:∃ l,l=aQ E.opn[j].wr:=⟨_,rfl⟩
 have hpos:=fun S (hS:S∈E.opn)=>h.pos hS
 have hla:=h.latest
 have hw:∀ c,c<60→(X.ses k).wr c=bQ l (ax c):=fun c hc=>by
  rw[hl,eH hc]
  exact hss.wr c hc
 have hhist:∀ c,c<60→((X.setSes k .zero).commit (X.ses k)).hist c=X.hist c++AH ((E.com.length:Int)+1) (bQ l (ax c)):=fun c hc=>by
  show (match (X.ses k).wr c with|some v=>X.hist c++[(X.latest+1,v)]|none=>X.hist c)=_
  rw[hw c hc,hla]
  cases bQ l (ax c) with
  |none=>simp[AH]
  |some v=>rfl
 have hfull:∀ c,dz (E.com++[l]) c=dz E.com c++AH ((E.com.length:Int)+1) (bQ l (ax c)):=fun c=>by
  rw[mg]
  cases bQ l (ax c) <;> rfl
 rw[←hl] at hne ⊢
 obtain⟨lo,hh⟩:=h.his
 refine⟨?_,⟨lo,?_,fun S hS=>hh.snap S (List.mem_filter.mp hS).1,fun c hc t h1 h2=>?_⟩,⟨fun c hc=>?_,fun v hv=>?_,fun v hv=>?_⟩,fun S hS p hp hn=>?_⟩
 ·obtain⟨L,hs⟩:=h.sim
  obtain⟨_,L',h2⟩:=hs.commit n
  have e1:(jQ (X.full E.com) n).2=((X.full E.com).setSes k .zero).commit (X.ses k):=by
   have a:aM (X.full E.com) n=some k:=hf
   have b:kE (X.ses k)=true:=by
    rw[tJ hss]
    have:(aQ E.opn[j].nf.wr).isEmpty=false:=by
     show (aQ E.opn[j].wr).isEmpty=false
     rw[←hl];exact hne
    rw[this];rfl
   unfold jQ
   rw[a]
   show (if kE (X.ses k) then (if clash X (X.ses k) then _ else _) else _:(Int×Int)×ap).2=_
   rw[b,hcl]
   rfl
  have e2:(kM E.nf n).2=dF (E.nf.commit l) n:=by
   have a:du E.nf.opn n=some E.opn[j].nf:=by
    have:du E.nf.opn n=(du E.opn n).map br.nf:=pP _ _
    rw[this,hfs];rfl
   unfold kM
   rw[a]
   show (if d9 E E.opn[j] then _ else if (aQ E.opn[j].wr).isEmpty then _ else _:(Int×Int)×bm).2=_
   rw[hcl2,←hl,hne]
   show dF (E.nf.commit (aQ E.opn[j].wr)) n=_
   rw[←hl]
  rw[e1,e2] at h2
  refine⟨L',h2.swap rfl rfl rfl rfl rfl (fun c hc=>?_) rfl rfl ?_ rfl ?_⟩
  ·show dz (E.com++[l]) c=(match (X.ses k).wr c with|some v=>dz E.com c++[(X.latest+1,v)]|none=>dz E.com c)
   rw[hfull,hw c hc,hla]
   cases bQ l (ax c) with
   |none=>simp[AH]
   |some v=>rfl
  ·show (dF (E.commit l) n).nf.opn=(dF E.nf n).opn
   rw[yw]
   rfl
  ·show keptN (ap.full _ (E.com++[l])) 60=(List.replicate (rG (E.com++[l])) ((0:Int),((ByteArray.empty,0):Wr))).length
   rw[l6,List.length_replicate]
 ·show lo≤((E.com++[l]).length:Int)
  have:=hh.le
  simp
  omega
 ·have h2':t≤(E.com.length:Int)+1:=by
   have:t≤((E.com++[l]).length:Int):=h2
   simpa using this
  show e8 (aN (((X.setSes k .zero).commit (X.ses k)).hist c) t) (aN (dz (E.com++[l]) c) t)
  rw[hhist c hc,hfull]
  by_cases e:t≤E.com.length
  ·have hold:=hh.seen c hc t h1 e
   cases hlw:bQ l (ax c) with
   |none=>simpa [AH] using hold
   |some v=>
    show e8 (aN (X.hist c++[((E.com.length:Int)+1,v)]) t) (aN (dz E.com c++[((E.com.length:Int)+1,v)]) t)
    rw[eJ,eJ,if_neg (by simp only;omega),if_neg (by simp only;omega)]
    exact hold
  ·have et:t=(E.com.length:Int)+1:=by omega
   cases hlw:bQ l (ax c) with
   |none=>
    have hold:=hh.seen c hc E.com.length hh.le (Int.le_refl _)
    show e8 (aN (X.hist c++[]) t) (aN (dz E.com c++[]) t)
    rw[List.append_nil,List.append_nil,nU (m:=E.com.length) (fun p hp=>by have:=(hg.his c p hp).1;omega) (by omega),nU (h:=dz E.com c) (m:=E.com.length) (fun p hp=>(lp hp).2) (by omega)]
    exact hold
   |some v=>
    show e8 (aN (X.hist c++[((E.com.length:Int)+1,v)]) t) (aN (dz E.com c++[((E.com.length:Int)+1,v)]) t)
    rw[eJ,eJ,if_pos (by simp only;omega),if_pos (by simp only;omega)]
    exact .refl _
 ·rw[hhist c hc,h.kept.hist c hc]
  show _=dH (E.kept++l.map fun p=>((E.com.length:Int)+1,p)) c
  rw[qN]
  congr 1
  have:=kS ((E.com.length:Int)+1) E.opn[j].wr hc 60 (Nat.le_refl _)
  rw[if_pos hc] at this
  have e:cE E.opn[j].wr 60=l:=hl.symm
  rw[e] at this
  rw[this,hl,eH hc]
 ·have hv':v∈E.kept++l.map fun p=>((E.com.length:Int)+1,p):=hv
  rcases List.mem_append.mp hv' with hv'|hv'
  ·exact h.kept.cell v hv'
  ·obtain⟨p,hp,rfl⟩:=List.mem_map.mp hv'
   rw[hl] at hp
   obtain⟨c,_,hc,_,_,e,_⟩:=lE hp
   exact⟨c,hc,e⟩
 ·have hv':v∈E.kept++l.map fun p=>((E.com.length:Int)+1,p):=hv
  show 1≤v.1∧v.1≤((E.com++[l]).length:Int)∧dK (E.com++[l]) v.2.1 v.1.toNat=(v.2.2,v.1)
  rcases List.mem_append.mp hv' with hv'|hv'
  ·obtain⟨w1,w2,w3⟩:=h.kept.was v hv'
   refine⟨w1,by simp;omega,?_⟩
   rw[jC _ _ _ _ (by omega)]
   exact w3
  ·obtain⟨p,hp,rfl⟩:=List.mem_map.mp hv'
   refine⟨by simp only;omega,by simp,?_⟩
   have e:((E.com.length:Int)+1).toNat=E.com.length+1:=by omega
   simp only[e]
   rw[hl] at hp ⊢
   exact xA hval hp
 ·have hS0:S∈E.opn:=(List.mem_filter.mp hS).1
  have hd:=h.fire.drop (fun S hS=>(hpos S hS).1) k n S hS p hp hn
  obtain⟨Rs,g1,g2,g3,g4⟩:=hd
  have hsn:fS (E.com++[l]) S.snap=fS E.com S.snap:=D3 (hpos S hS0).2.2.2
  refine⟨Rs,g1,g2,?_,?_⟩
  ·show my _ (fS (E.com++[l]) S.snap)
   rw[hsn]
   exact g3
  ·show iP _ _ _ (fS (E.com++[l]) S.snap) Rs
   rw[hsn]
   exact g4
theorem dm.commit {i:Nat}{X:ap}{F:dN}{E:bm}(h:dm X F E)(hg:eO i X)(hval:∀ S∈E.opn,∀ q∈S.wr,-1≤q.2)(n:Int):(bH X n).1=(cH E n).1∧dm (bH X n).2 (cy X (bH X n).2 F) (cH E n).2:=by
 have hla:=h.latest
 have hro:=h.room
 have hpos:=fun S (hS:S∈E.opn)=>h.pos hS
 have hdrop:∀ k,aM X n=some k→∀ jj,eK E.opn n=some jj→dm (X.setSes k .zero) (cy X (X.setSes k .zero) F) (dF E n):=fun k hk jj hjj=>by
  have:=(h.abort n).2
  have a1:(aY X n).2=X.setSes k .zero:=by unfold aY;rw[hk]
  have a2:(cR E n).2=dF E n:=by unfold cR;rw[hjj]
  rw[a1,a2] at this
  exact this
 unfold bH cH
 rcases h.find n with ⟨e1,_,e2⟩|⟨j,k,hj,hk8,hn,hkn,e1,e3,e2,hss,hcl⟩
 ·rw[e1,e2,gd]
  exact⟨rfl,h⟩
 ·rw[e1,e2]
  have hS:=List.getElem_mem hj
  simp only[]
  have hw:kE (X.ses k)=!(aQ E.opn[j].wr).isEmpty:=tJ (S:=E.opn[j].nf) hss
  have hwn:cu (X.ses k) 60=(aQ E.opn[j].wr).length:=kw (S:=E.opn[j].nf) hss 60 (Nat.le_refl _)
  rw[hw,hcl,hwn]
  cases he:(aQ E.opn[j].wr).isEmpty with
  |true=>
   have hr:d9 E E.opn[j]=false:=by
    unfold d9
    rw[List.isEmpty_iff.mp he]
    rfl
   rw[hr]
   exact⟨rfl,hdrop k e1 j e3⟩
  |false=>
   cases hr:d9 E E.opn[j] with
   |true=>exact⟨rfl,hdrop k e1 j e3⟩
   |false=>
    simp only[Bool.not_false,if_true,Bool.false_eq_true,if_false]
    obtain⟨m,hm⟩:∃ m,m=(aQ E.opn[j].wr).length:=⟨_,rfl⟩
    rw[←hm]
    have hkl:=h.kept.len
    by_cases hfit:((keptN X 60+m:Nat):Int)≤X.room
    ·have r1:cI X m=(true,X):=by unfold cI;rw[if_pos hfit]
     have r2:ed E m=E:=by
      unfold ed
      rw[if_neg]
      rw[←hkl,←hro]
      omega
     rw[r1,r2]
     simp only[if_true]
     rw[if_neg (by rw[←hkl,←hro];omega)]
     refine⟨by rw[hla],h.commits hg hj e1 e2 hss (hcl.trans hr) hr he (hval _ hS)⟩
    ·have r1:cI X m=(decide (((keptN (X.swept (cN X 8)) 60+m:Nat):Int)≤X.room),X.swept (cN X 8)):=by unfold cI;rw[if_neg hfit]
     have r2:ed E m=(dX E).2:=by
      unfold ed
      rw[if_pos]
      rw[←hkl,←hro]
      omega
     have hsw:=(h.sweep hg).2
     have hkl2:=hsw.kept.len
     have hX1:(ci X).2=X.swept (cN X 8):=rfl
     rw[hX1] at hsw hkl2
     rw[r1,r2]
     simp only[]
     by_cases hfit2:((keptN (X.swept (cN X 8)) 60+m:Nat):Int)≤X.room
     ·rw[decide_eq_true hfit2,if_pos rfl,if_neg (by rw[←hkl2,←hro];omega)]
      refine⟨by rw[hla],?_⟩
      have hc:=hsw.commits (hg.swept _) (n:=n) (k:=k) (j:=j) hj e1 e2 hss (hcl.trans hr) hr he (hval _ hS)
      exact hc
     ·rw[decide_eq_false hfit2]
      simp only[Bool.false_eq_true,if_false]
      rw[if_pos (show ((dX E).2.kept.length:Int)+m>E.room by rw[←hkl2,←hro];omega)]
      refine⟨rfl,?_⟩
      have:cy X (X.swept (cN X 8)) F=F:=by
       funext q
       unfold cy
       rw[if_pos (show ((X.swept (cN X 8)).ses q).num=(X.ses q).num from rfl)]
      rw[this]
      exact hsw
theorem AK {s:ByteArray}{R:List ay}(h:cz s 0 0 (some R)):∀ r∈R,mw s r.2.1 r.2.2=false:=by
 rcases h with ⟨_,h,_,_⟩|⟨_,_,_,_,h,_⟩|⟨_,_,_,_,_,_,h,_⟩|⟨_,_,_,_,_,_,_,h,_⟩|⟨R',j,h1,h2,h3,h4,_,_,h5⟩
 ·cases h
 ·cases h
 ·cases h
 ·cases h
 ·cases h5
  intro r hr
  obtain⟨k,hk,e⟩:=List.getElem_of_mem hr
  cases hb:mw s r.2.1 r.2.2 with
  |false=>rfl
  |true=>
   refine absurd ⟨hk,?_⟩ (h4 k hk)
   rw[e]
   exact hb
theorem nW {s:ByteArray}{e:fq}{a:Nat}{bs:Nat→Bool}(hs:bd (bt s a)=true)(hb:∀ n:Nat,bs n=true→(e n).isSome=true)(hl:e9 bs (dw (bt s a)) (dC (bt s a))=false):lC (-1) s e a=lC 0 s e a:=by
 unfold lC
 rw[nZ hs (fun hk=>hb _ ?_)]
 unfold e9 at hl
 rw[decide_eq_true hk] at hl
 simpa using hl
theorem xt {s:ByteArray}{e:fq}{p:Nat}{bs:Nat→Bool}(hok:cT s p=true)(h46:bt s p≠46)(hb:∀ n:Nat,bs n=true→(e n).isSome=true)(hl:jx s p bs=false):kt (-1) s e p=kt 0 s e p:=by
 unfold cT at hok
 unfold jx at hl
 rw[Bool.or_eq_false_iff] at hl
 unfold kt
 by_cases h43:bt s p=43
 ·rw[if_pos h43] at hok
  have ev:dZ s p=wU s (p+1):=by unfold dZ;rw[if_pos h43]
  rw[ev] at hl
  unfold fJ at hok
  simp only[Bool.and_eq_true] at hok
  rw[if_pos h43,if_pos h43,nW (a:=p+2) hok.1.2 hb hl.1,nW (a:=c9 s (p+2)) hok.2 hb hl.2]
 ·rw[if_neg h43] at hok
  by_cases h45:bt s p=45
  ·rw[if_pos h45] at hok
   have ev:dZ s p=vZ s (p+1):=by unfold dZ;rw[if_neg h43,if_pos h45]
   rw[ev] at hl
   unfold gq at hok
   simp only[Bool.and_eq_true] at hok
   rw[if_neg h43,if_neg h43,nW (a:=p+2) hok.2 hb hl.1]
  ·rw[if_neg h45] at hok
   exact absurd (by simpa using hok) h46
theorem wH {s:ByteArray}{e:fq}{bs:Nat→Bool}(hb:∀ n:Nat,bs n=true→(e n).isSome=true){K:List Nat}(hok:∀ p∈K,cT s p=true)(hl:iB s K bs=false):iw (-1) s e K=fW s e K:=by
 rw[←FB]
 unfold iw
 have:∀ (l:List Nat) (o:Option (List (Nat×Option Int)×Bool)),(∀ p∈l,cT s p=true∧jx s p bs=false)→l.foldl (fun o p=>o.bind fun q=>if bt s p=46 then some (q.1,true) else (kt (-1) s e p).map fun x=>(q.1++[x],q.2)) o=l.foldl (fun o p=>o.bind fun q=>if bt s p=46 then some (q.1,true) else (kt 0 s e p).map fun x=>(q.1++[x],q.2)) o:=by
  intro l
  induction l with
  |nil=>intro o _;rfl
  |cons p l ih=>
   intro o h
   rw[List.foldl_cons,List.foldl_cons]
   obtain⟨h1,h2⟩:=h p (by simp)
   have e1:(o.bind fun q=>if bt s p=46 then some (q.1,true) else (kt (-1) s e p).map fun x=>(q.1++[x],q.2))=(o.bind fun q=>if bt s p=46 then some (q.1,true) else (kt 0 s e p).map fun x=>(q.1++[x],q.2)):=by
    congr 1
    funext q
    by_cases h46:bt s p=46
    ·rw[if_pos h46,if_pos h46]
    ·rw[if_neg h46,if_neg h46,xt h1 h46 hb h2]
   rw[e1]
   exact ih _ (fun q hq=>h q (by simp[hq]))
 refine this K _ (fun p hp=>⟨hok p hp,?_⟩)
 unfold iB at hl
 rw[List.any_eq_false] at hl
 simpa using hl p hp
structure fV (s:ByteArray)(R:List ay):Prop where
 all:yz s R
 prog:nS s R
 unb:∀ r∈R,mw s r.2.1 r.2.2=false
theorem vp {s:ByteArray}{R:List ay}(h:cz s 0 0 (some R)):fV s R:=⟨xE h,vS h,AK h⟩
def aD (s:ByteArray)(R:List ay)(i:In):vU:=iw (-1) s i.env (R.getD i.rule (0,[],[])).2.2
theorem xl {s:ByteArray}{R:List ay}(hR:fV s R){F:List aw}{i:In}(h:i∈bz 0 s F R R.length):aD s R i=fW s i.env (R.getD i.rule (0,[],[])).2.2:=by
 unfold bz at h
 obtain⟨k,hk,hm⟩:=List.mem_flatMap.mp h
 have hk':k<R.length:=by simpa using hk
 have e:R.getD k (0,[],[])=R[k]:=by simp[List.getD,List.getElem?_eq_getElem hk']
 have er:i.rule=k:=by
  have hm2:=hm
  unfold dy at hm2
  exact (qh (R.getD k (0,[],[])).2.1 [] [In.start k] (fun j hj=>by rw[List.mem_singleton] at hj;rw[hj];exact⟨rfl,rfl⟩) i hm2).1
 rw[e] at hm
 have hr:=List.getElem_mem hk'
 obtain⟨_,bs,hcb,hbs⟩:=lZ (F:=F) (r:=k) (hR.all.walk _ hr).conds (hR.all.bound _ hr) R[k].2.1.length (Nat.le_refl _)
 rw[List.take_length] at hcb
 have hu:=hR.unb _ hr
 unfold mw at hu
 rw[hcb] at hu
 rw[←jI] at hm
 unfold aD
 rw[er,e]
 exact wH (hbs i hm) (hR.prog.acts _ hr).1 hu
theorem iE (com:List (List Wr))(c:Nat):∀ t:Nat,t≤com.length→aN (dz com c) t=((dK com (ax c) t).2,lH (dK com (ax c) t).1):=by
 induction com using pi with
 |h0=>
  intro t ht
  have:t=0:=by simpa using ht
  subst this
  rfl
 |h1 com l ih=>
  intro t ht
  rw[List.length_append,List.length_singleton] at ht
  rw[mg]
  by_cases e:t=com.length+1
  ·subst e
   rw[mR]
   unfold bQ
   cases h1:bc (ax c) l with
   |some k=>
    simp only[Option.map_some]
    rw[eJ,if_pos (by simp)]
   |none=>
    simp only[Option.map_none,List.append_nil]
    rw[←ih com.length (Nat.le_refl _)]
    exact nU (m:=com.length) (fun p hp=>(lp hp).2) (by omega)
  ·rw[jC _ _ _ _ (by omega),←ih t (by omega)]
   cases bQ l (ax c) with
   |none=>simp
   |some v=>rw[eJ,if_neg (by simp only;omega)]
def Ba (S:br):aJ:=⟨S.num,S.snap,S.wr.length,fun c=>bQ S.wr (ax c),fun c=>match bc (ax c) S.wr with|some k=>S.snap+((k:Int)+1)|none=>0,none⟩
theorem Ff {P:aJ}{S:br}(h:dd P S.nf)(f:Nat→Int×Option Int):di P f 60=di (Ba S) f 60:=by
 unfold di
 apply dG
 intro c hc
 have hc60:c<60:=by simpa using hc
 congr 1
 unfold cK
 have hw:P.wr c=bQ S.wr (ax c):=h.wr c hc60
 rw[hw]
 show _=match bQ S.wr (ax c) with|some v=>v.map fun u=>(u,(Ba S).tm c)|none=>(f c).2.map fun v=>(v,(f c).1)
 unfold bQ
 cases hl:bc (ax c) S.wr with
 |none=>rfl
 |some k=>
  have ht:=h.tm c hc60 k hl
  simp only[Option.map_some]
  have e:(Ba S).tm c=S.snap+((k:Int)+1):=by
   show (match bc (ax c) S.wr with|some k=>S.snap+((k:Int)+1)|none=>0)=_
   rw[hl]
  rw[e,ht]
  rfl
def ff (com:List (List Wr))(S:br):List aw:=di (Ba S) (fS com S.snap) 60
def Fi (com:List (List Wr))(S:br):In→Bool:=fun i=>xT S.fired (jb com S i)
def mD (s:ByteArray)(R:List ay)(com:List (List Wr))(S:br):List In:=bK (i8 (eh s R)) (jr s (ff com S) R (Fi com S) R.length)
theorem po {α β:Type}{f g:β→α→β}:∀ {l:List α} (b:β),(∀ x∈l,∀ b,f b x=g b x)→l.foldl f b=l.foldl g b
 |[],_,_=>rfl
 |a::l,b,h=>by
  rw[List.foldl_cons,List.foldl_cons,h a (by simp)]
  exact po _ (fun x hx=>h x (by simp[hx]))
theorem Du {com:List (List Wr)}{S:br}(h0:0≤S.snap)(h1:S.snap≤com.length){i:In}(hi:∀ q∈i.facts,q∈ff com S):jb com S i=mB S.snap i:=by
 unfold jb mB
 refine po _ (fun q hq b=>?_)
 congr 1
 obtain⟨_,hs⟩:=yo (hi q hq)
 unfold cK at hs
 unfold kG Cn
 have hwr:(Ba S).wr q.1=bQ S.wr (ax q.1):=rfl
 rw[hwr] at hs
 unfold bQ at hs
 cases hl:bc (ax q.1) S.wr with
 |some k=>
  rw[hl] at hs
  simp only[Option.map_some] at hs
  have e:(Ba S).tm q.1=S.snap+((k:Int)+1):=by
   show (match bc (ax q.1) S.wr with|some k=>S.snap+((k:Int)+1)|none=>0)=_
   rw[hl]
  obtain⟨u,_,hu⟩:=Option.map_eq_some_iff.mp hs
  have ht:q.2.2=S.snap+((k:Int)+1):=by rw[←hu];exact e
  simp only[]
  rw[if_pos (by omega)]
  have:(q.2.2 - S.snap - 1).toNat=k:=by omega
  rw[this]
 |none=>
  rw[hl] at hs
  simp only[Option.map_none] at hs
  obtain⟨u,_,hu⟩:=Option.map_eq_some_iff.mp hs
  have hv:=iE com q.1 S.snap.toNat (by omega)
  have e0:((S.snap.toNat:Nat):Int)=S.snap:=Int.toNat_of_nonneg h0
  rw[e0] at hv
  have ht:q.2.2=(dK com (ax q.1) S.snap.toNat).2:=by
   rw[←hu]
   show (aN (dz com q.1) S.snap).1=_
   rw[hv]
  have hb:=nM com (ax q.1) S.snap.toNat
  simp only[]
  rw[if_neg (by omega),ht]
structure iu (s:ByteArray)(R:List ay)(com:List (List Wr))(sn:Int)(P:aJ)(fm:Nat→Option Int)(S:br):Prop where
 ses:dd P S.nf
 fire:kC s R com P fm S
 ok:yt P (fS com sn)
 snap:S.snap=sn
 lo:0≤sn
 hi:sn≤com.length
theorem iu.saw {s:ByteArray}{R:List ay}{com:List (List Wr)}{sn:Int}{P:aJ}{fm:Nat→Option Int}{S:br}(h:iu s R com sn P fm S):di P (fS com sn) 60=ff com S:=by
 unfold ff
 rw[h.snap]
 exact Ff h.ses _
theorem qI {s:ByteArray}{F:List aw}{R:List ay}(hF:rk F){i:In}(h:i∈bz 0 s F R R.length):∀ q∈i.facts,q∈F:=by
 unfold bz at h
 obtain⟨k,_,hm⟩:=List.mem_flatMap.mp h
 exact (pO hF k _ i hm).facts
theorem yh {sn:Int}{r i:In}(h1:r.rule=i.rule)(h2:r.facts=i.facts):mB sn r=mB sn i:=by
 unfold mB fQ
 rw[h1,h2]
theorem Dl {l:List ByteArray}{k:ByteArray}:xT l k=true↔k∈l:=by
 unfold xT
 rw[List.any_eq_true]
 constructor
 ·rintro⟨t,ht,e⟩
  have e1:t.toList=k.toList:=by simpa using e
  rw[ByteArray.toList_eq,ByteArray.toList_eq] at e1
  have:t=k:=ByteArray.ext (Array.ext' e1)
  rw[←this]
  exact ht
 ·intro h
  exact⟨k,h,by simp⟩
theorem iu.facts {s:ByteArray}{R:List ay}{com:List (List Wr)}{sn:Int}{P:aJ}{fm:Nat→Option Int}{S:br}(h:iu s R com sn P fm S):rk (ff com S):=by
 rw[←h.saw]
 exact h.ok.facts
theorem iu.one {s:ByteArray}{R:List ay}{com:List (List Wr)}{sn:Int}{P:aJ}{fm:Nat→Option Int}{S:br}(h:iu s R com sn P fm S)(hR:fV s R){i:In}(hi:i∈bz 0 s (ff com S) R R.length):qi s R i∧Cp i.facts∧(∀ q∈i.facts,cK P (fS com sn) q.1=some q.2)∧jb com S i=mB sn i:=by
 have hF:=h.facts
 have hm:=qI hF hi
 obtain⟨Rs,_,_,ht,_⟩:=h.fire
 rw[h.snap] at ht
 have hsn:∀ q∈i.facts,cK P (fS com sn) q.1=some q.2:=fun q hq=>by
  have:=hm q hq
  rw[←h.saw] at this
  exact (yo this).2
 refine⟨wM hF (ix _ _ _) hR.all.walk hi,fun q hq=>?_,hsn,?_⟩
 ·have h1:=hF q (hm q hq)
  have h2:=nQ ht (hsn q hq)
  exact⟨h1.1,h1.2.1,h1.2.2,by omega⟩
 ·have:=Du (by rw[h.snap];exact h.lo) (by rw[h.snap];exact h.hi) hm
  rw[h.snap] at this
  exact this
theorem iu.fd {s:ByteArray}{R:List ay}{com:List (List Wr)}{sn:Int}{P:aJ}{fm:Nat→Option Int}{S:br}(h:iu s R com sn P fm S)(hR:fV s R){i:In}(hi:i∈bz 0 s (ff com S) R R.length):Fi com S i=wy fm i:=by
 obtain⟨h1,h2,h3,h4⟩:=h.one hR hi
 obtain⟨Rs,e1,e2,ht,hf⟩:=h.fire
 rw[h.snap] at e1 ht hf
 have hiff:=D0 hf ht h1 h3
 rw[←e2] at hiff
 rw[Bool.eq_iff_iff,hiff]
 unfold Fi
 rw[Dl,h4,e1,List.mem_map]
 constructor
 ·rintro⟨r,hr,hk⟩
  have h9:=hR.all.nine
  have hs1:=(hf.shape r hr).1
  have hs2:=h1.1
  obtain⟨a,b⟩:=DT (hf.facts r hr) h2 (by omega) (by omega) hk
  exact⟨r,hr,a,b⟩
 ·rintro⟨r,hr,a,b⟩
  exact⟨r,hr,yh a b⟩
theorem iu.open {s:ByteArray}{R:List ay}{com:List (List Wr)}{sn:Int}{P:aJ}{fm:Nat→Option Int}{S:br}(h:iu s R com sn P fm S)(hR:fV s R):bK (i8 (eh s R)) (jr s (di P (fS com sn) 60) R (wy fm) R.length)=mD s R com S:=by
 unfold mD
 rw[h.saw]
 congr 1
 unfold jr
 refine List.filter_congr (fun i hi=>?_)
 rw[h.fd hR hi]
theorem sO {s:ByteArray}{R:List ay}{com:List (List Wr)}{S:br}{i:In}(h:i∈mD s R com S):i∈bz 0 s (ff com S) R R.length:=(List.mem_filter.mp (lk.mp h)).1
theorem iu.fst {s:ByteArray}{R:List ay}{com:List (List Wr)}{sn:Int}{P:aJ}{fm:Nat→Option Int}{S:br}(h:iu s R com sn P fm S)(hR:fV s R):jN s R (fS com sn) P fm=(mD s R com S).head?:=by
 unfold jN gz
 rw[h.open hR]
theorem iu.step {s:ByteArray}{R:List ay}{com:List (List Wr)}{sn:Int}{P:aJ}{fm:Nat→Option Int}{S:br}(h:iu s R com sn P fm S)(hR:fV s R){i:In}(hi:i∈bz 0 s (ff com S) R R.length){q:List (Nat×Option Int)×Bool}(hq:fW s i.env (R.getD i.rule (0,[],[])).2.2=some q):
  iu s R com sn (puts P q.1) (cG fm (bX i) (some (b8 i.facts))) (S.fire (jb com S i) q.1):=by
 obtain⟨h1,h2,h3,h4⟩:=h.one hR hi
 obtain⟨Rs,e1,e2,ht,hf⟩:=h.fire
 rw[h.snap] at e1 ht hf
 have hr:i.rule<R.length:=h1.1
 have e:R.getD i.rule (0,[],[])=R[i.rule]:=by simp[List.getD,List.getElem?_eq_getElem hr]
 rw[e] at hq
 have hdig:=mK (hR.prog.acts _ (List.getElem_mem hr)).1 _ (Nat.le_refl _) q (by rw[List.take_length];exact hq)
 refine⟨h.ses.puts q.1 hdig,⟨Rs++[i],?_,?_,?_,?_⟩,h.ok.puts (fun x hx=>(hdig x hx).2),h.snap,h.lo,h.hi⟩
 ·show S.fired++[jb com S i]=(Rs++[i]).map (mB S.snap)
  rw[List.map_append,h.snap,e1,h4]
  rfl
 ·rw[nN,e2]
 ·show my _ (fS com S.snap)
  rw[h.snap]
  exact ht.puts q.1
 ·show iP s R _ (fS com S.snap) _
  rw[h.snap]
  exact (hf.fire ht h1 h2 h3).puts q.1
theorem v9 {s:ByteArray}{R:List ay}{com:List (List Wr)}{sn:Int}(hR:fV s R):∀ (n:Nat) {P:aJ} {fm:Nat→Option Int} {S:br},iu s R com sn P fm S→
  (db (mD s R com) (aD s R) (jb com) n S).1=(((cU s R (fS com sn) n P fm).1.1:Int),(cU s R (fS com sn) n P fm).1.2)∧iu s R com sn (cU s R (fS com sn) n P fm).2.1 (cU s R (fS com sn) n P fm).2.2 (db (mD s R com) (aD s R) (jb com) n S).2
 |0,P,fm,S,h=>by
  have hf:=h.fst hR
  unfold db cU
  rw[hf]
  cases hm:mD s R com S with
  |nil=>exact⟨rfl,h⟩
  |cons i l=>exact⟨rfl,h⟩
 |n+1,P,fm,S,h=>by
  have hf:=h.fst hR
  unfold db cU
  rw[hf]
  cases hm:mD s R com S with
  |nil=>exact⟨rfl,h⟩
  |cons i l=>
   have hi:i∈bz 0 s (ff com S) R R.length:=sO (s:=s) (R:=R) (com:=com) (S:=S) (by rw[hm];simp)
   have ha:=xl hR hi
   simp only[List.head?_cons]
   rw[ha]
   cases ho:fW s i.env (R.getD i.rule (0,[],[])).2.2 with
   |none=>exact⟨rfl,h⟩
   |some q=>
    simp only[]
    have hst:=h.step hR hi ho
    cases hq:q.2 with
    |true=>exact⟨rfl,hst⟩
    |false=>
     obtain⟨i1,i2⟩:=v9 hR n hst
     simp only[Bool.false_eq_true,if_false]
     refine⟨?_,i2⟩
     rw[i1]
     simp
end Go.Proofs.YthlhbjnkohinmaaGreat
