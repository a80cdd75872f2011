import Derived.Test.YthlhbjnkohinmaaGreatP38
import Derived.Test.YthlhbjnkohinmaaGreatP15
import Derived.Test.YthlhbjnkohinmaaGreatP28
import Derived.Test.YthlhbjnkohinmaaGreatP36
import Derived.Test.YthlhbjnkohinmaaGreatP25
import Derived.Test.YthlhbjnkohinmaaGreatP26
import Derived.Test.YthlhbjnkohinmaaGreatP05
import Derived.Test.YthlhbjnkohinmaaGreatP35
import Derived.Test.YthlhbjnkohinmaaGreatP23
namespace Go.Proofs.YthlhbjnkohinmaaGreat
set_option maxRecDepth 100000
set_option maxHeartbeats 8000000
open Go.RowKit
def oX (E:bk) (S:br) (l:List Wr) (i:Nat):Prop:=∀ j (h:j<l.length),j<i→¬(dK E.com l[j].1 E.com.length).2>S.snap
structure yI (s:ByteArray) (R:List ax):Prop where
 size:s.size≤400
 nine:R.length≤9
 ok:∀ r∈R,gd s r
 walk:∀ r∈R,lV s r
 five:∀ k (h:k<R.length),R[k].2.1.length≤5
 bound:∀ r∈R,b8 s r.2.1 (fun _=>false)≠none
theorem wS {s:ByteArray} {R:List ax} (h:cA s 0 0 (some R)):yI s R:=by
 rcases h with ⟨_,h,_,_⟩|⟨_,_,_,_,h,_⟩|⟨_,_,_,_,_,_,h,_⟩|⟨_,_,_,_,_,_,_,h,_⟩|⟨R',j,h1,h2,h3,h4,_,_,h5⟩
 ·cases h
 ·cases h
 ·cases h
 ·cases h
 ·cases h5
  have hok:=(te h2 rfl).2
  have hl:R.length≤9:=by
   by_cases hh:R.length≤9
   ·exact hh
   ·have:=(mu h3 9 (by omega)).2.2
    omega
  refine⟨h1,hl,hok,fun r hr=>?_,fun k hk=>(mu h3 k hk).1,fun r hr=>?_⟩
  ·obtain⟨k,hk,e⟩:=List.getElem_of_mem hr
   have h6:=h3 k hk
   have h7:=(mu h3 k hk).1
   rw[e] at h7
   refine⟨lC (hok r hr).conds rfl,?_,by omega⟩
   by_cases hp:bL s r.2.1≤3
   ·exact hp
   ·refine absurd ⟨hk,.inr ?_⟩ h6
    rw[e]
    unfold io
    simp
    omega
  ·obtain⟨k,hk,e⟩:=List.getElem_of_mem hr
   intro hb
   refine absurd ⟨hk,?_⟩ (h4 k hk)
   rw[e]
   unfold mt
   rw[hb]
theorem Bt (X:ap) (k:Nat):pN (fQ X k):=by
 unfold pN fQ di
 refine List.Pairwise.filterMap _ (R:=fun a b:Nat=>a<b) ?_ List.pairwise_lt_range
 intro a a' h b hb b' hb'
 cases h1:cM (X.ses k) (fun c=>aM (X.hist c) (X.ses k).snap) a with
 |none=>rw[h1] at hb;cases hb
 |some p=>
  cases h2:cM (X.ses k) (fun c=>aM (X.hist c) (X.ses k).snap) a' with
  |none=>rw[h2] at hb';cases hb'
  |some p'=>
   rw[h1] at hb
   rw[h2] at hb'
   simp only[Option.map_some,Option.some.injEq] at hb hb'
   rw[←hb,←hb']
   exact h
theorem zo {X:ap} {E:bk} {L:List (Nat×br)} (h:g9 X E L) {q:Nat×br} (hq:q∈L):(cG E.com q.2 60).map Value.string=gC (fQ X q.1)∧(cG E.com q.2 60).length=(fQ X q.1).length:=by
 have e:cG E.com q.2 60=(fQ X q.1).map fun p=>cz p.1 p.2.1:=by
  unfold cG fQ di
  rw[List.map_filterMap]
  apply dH
  intro c hc
  have hs:=h.seen hq (by simpa using hc)
  rw[←oj] at hs
  unfold kp
  unfold lH at hs
  by_cases hv:(dn E.com q.2 (aw c)).1<0
  ·rw[if_pos hv] at hs
   rw[if_neg (by omega)]
   cases hst:cM (X.ses q.1) (fun c=>aM (X.hist c) (X.ses q.1).snap) c with
   |none=>rfl
   |some p=>rw[hst] at hs;cases hs
  ·rw[if_neg hv] at hs
   rw[if_pos (by omega)]
   cases hst:cM (X.ses q.1) (fun c=>aM (X.hist c) (X.ses q.1).snap) c with
   |none=>rw[hst] at hs;cases hs
   |some p=>
    rw[hst] at hs
    simp only[Option.map_some,Option.some.injEq] at hs
    simp[uI,hs]
 rw[e]
 exact⟨by simp[gC],by simp⟩
theorem Dr {s:ByteArray} {i:Nat} {L:List Nat} {j:Nat} {ok:Bool} (h:jx s i L j ok):ok=true→∀ p∈L,b7 s p=true:=by
 refine jx.ind (M:=fun i L j ok=>ok=true→∀ p∈L,b7 s p=true) ?_ ?_ ?_ ?_ ?_ h
 ·intro _ _ h
  cases h
 ·intro _ _ _ h
  cases h
 ·intro _ _ h _ _ p hp
  rw[List.mem_singleton.mp hp]
  exact h
 ·intro _ _ _ _ _ h
  cases h
 ·intro _ _ _ _ _ h _ _ ih e p hp
  rcases List.mem_cons.mp hp with rfl|hp
  ·exact h
  ·exact ih e p hp
theorem Cy {s:ByteArray} {i:Nat} {L:List Nat} {j:Nat} {ok:Bool} (h:jV s i L j ok):ok=true→∀ p∈L,cP s p=true:=by
 refine jV.ind (M:=fun i L j ok=>ok=true→∀ p∈L,cP s p=true) ?_ ?_ ?_ ?_ ?_ h
 ·intro _ _ h
  cases h
 ·intro _ _ _ h
  cases h
 ·intro _ _ h _ _ p hp
  rw[List.mem_singleton.mp hp]
  exact h
 ·intro _ _ _ _ _ h
  cases h
 ·intro _ _ _ _ _ h _ _ ih e p hp
  rcases List.mem_cons.mp hp with rfl|hp
  ·exact h
  ·exact ih e p hp
theorem Cn {s:ByteArray} {i:Nat} {R:List ax} {j:Nat} {ok:Bool} (h:kJ s i R j ok):ok=true→∀ r∈R,bM (bt s r.1)=true∧(∀ p∈r.2.1,b7 s p=true)∧∀ p∈r.2.2,cP s p=true:=by
 refine kJ.ind (M:=fun i R j ok=>ok=true→∀ r∈R,bM (bt s r.1)=true∧(∀ p∈r.2.1,b7 s p=true)∧∀ p∈r.2.2,cP s p=true) ?_ ?_ ?_ h
 ·intro _ _ _ r hr
  cases hr
 ·intro _ _ _ _ _ _ h
  cases h
 ·intro i L K j R j' ok _ h1 _ ih e r hr
  rcases List.mem_cons.mp hr with rfl|hr
  ·obtain⟨j1,h3,_,h4,h5⟩:=h1.yes
   exact⟨h3,Dr h4 rfl,Cy h5 rfl⟩
  ·exact ih e r hr
structure nG (s:ByteArray) (R:List ax):Prop where
 nine:R.length≤9
 walk:∀ r∈R,lV s r
 acts:∀ r∈R,(∀ p∈r.2.2,cP s p=true)∧r.2.2.length≤4
 dig:∀ r∈R,bM (bt s r.1)=true
theorem vI {s:ByteArray} {R:List ax} (h:cA s 0 0 (some R)):nG s R:=by
 rcases h with ⟨_,h,_,_⟩|⟨_,_,_,_,h,_⟩|⟨_,_,_,_,_,_,h,_⟩|⟨_,_,_,_,_,_,_,h,_⟩|⟨R',j,h1,h2,h3,h4,_,_,h5⟩
 ·cases h
 ·cases h
 ·cases h
 ·cases h
 ·cases h5
  have hok:=Cn h2 rfl
  have hl:R.length≤9:=by
   by_cases hh:R.length≤9
   ·exact hh
   ·have:=(mu h3 9 (by omega)).2.2
    omega
  refine⟨hl,fun r hr=>?_,fun r hr=>?_,fun r hr=>(hok r hr).1⟩
  ·obtain⟨k,hk,e⟩:=List.getElem_of_mem hr
   have h6:=h3 k hk
   have h7:=(mu h3 k hk).1
   rw[e] at h7
   refine⟨(hok r hr).2.1,?_,by omega⟩
   by_cases hp:bL s r.2.1≤3
   ·exact hp
   ·refine absurd ⟨hk,.inr ?_⟩ h6
    rw[e]
    unfold io
    simp
    omega
  ·obtain⟨k,hk,e⟩:=List.getElem_of_mem hr
   have h7:=(mu h3 k hk).2.1
   rw[e] at h7
   exact⟨(hok r hr).2.2,h7⟩
theorem Ah {s:ByteArray} {R:List ax} (h:cA s 0 0 (some R)):∀ r∈R,mt s r.2.1 r.2.2=false:=by
 rcases h with ⟨_,h,_,_⟩|⟨_,_,_,_,h,_⟩|⟨_,_,_,_,_,_,h,_⟩|⟨_,_,_,_,_,_,_,h,_⟩|⟨R',j,h1,h2,h3,h4,_,_,h5⟩
 ·cases h
 ·cases h
 ·cases h
 ·cases h
 ·cases h5
  intro r hr
  obtain⟨k,hk,e⟩:=List.getElem_of_mem hr
  cases hb:mt s r.2.1 r.2.2 with
  |false=>rfl
  |true=>
   refine absurd ⟨hk,?_⟩ (h4 k hk)
   rw[e]
   exact hb
theorem nO {s:ByteArray} {e:ff} {a:Nat} {bs:Nat→Bool} (hs:bc (bt s a)=true) (hb:∀ n:Nat,bs n=true→(e n).isSome=true) (hl:e8 bs (dw (bt s a)) (dC (bt s a))=false):lp (-1) s e a=lp 0 s e a:=by
 unfold lp
 rw[nK hs (fun hk=>hb _ ?_)]
 unfold e8 at hl
 rw[decide_eq_true hk] at hl
 simpa using hl
theorem xZ {s:ByteArray} {e:ff} {p:Nat} {bs:Nat→Bool} (hok:cP s p=true) (h46:bt s p≠46) (hb:∀ n:Nat,bs n=true→(e n).isSome=true) (hl:js s p bs=false):ke (-1) s e p=ke 0 s e p:=by
 unfold cP at hok
 unfold js at hl
 rw[Bool.or_eq_false_iff] at hl
 unfold ke
 by_cases h43:bt s p=43
 ·rw[if_pos h43] at hok
  have ev:d9 s p=xD s (p+1):=by unfold d9;rw[if_pos h43]
  rw[ev] at hl
  unfold fI at hok
  simp only[Bool.and_eq_true] at hok
  rw[if_pos h43,if_pos h43,nO (a:=p+2) hok.1.2 hb hl.1,nO (a:=c9 s (p+2)) hok.2 hb hl.2]
 ·rw[if_neg h43] at hok
  by_cases h45:bt s p=45
  ·rw[if_pos h45] at hok
   have ev:d9 s p=vH s (p+1):=by unfold d9;rw[if_neg h43,if_pos h45]
   rw[ev] at hl
   unfold gk at hok
   simp only[Bool.and_eq_true] at hok
   rw[if_neg h43,if_neg h43,nO (a:=p+2) hok.2 hb hl.1]
  ·rw[if_neg h45] at hok
   exact absurd (by simpa using hok) h46
theorem xm {s:ByteArray} {e:ff} {bs:Nat→Bool} (hb:∀ n:Nat,bs n=true→(e n).isSome=true) {K:List Nat} (hok:∀ p∈K,cP s p=true) (hl:iw s K bs=false):iz (-1) s e K=fZ s e K:=by
 rw[←Fy]
 unfold iz
 have:∀ (l:List Nat) (o:Option (List (Nat×Option Int)×Bool)),(∀ p∈l,cP s p=true∧js s p bs=false)→l.foldl (fun o p=>o.bind fun q=>if bt s p=46 then some (q.1,true) else (ke (-1) s e p).map fun x=>(q.1++[x],q.2)) o=l.foldl (fun o p=>o.bind fun q=>if bt s p=46 then some (q.1,true) else (ke 0 s e p).map fun x=>(q.1++[x],q.2)) o:=by
  intro l
  induction l with
  |nil=>intro o _;rfl
  |cons p l ih=>
   intro o h
   rw[List.foldl_cons,List.foldl_cons]
   obtain⟨h1,h2⟩:=h p (by simp)
   have e1:(o.bind fun q=>if bt s p=46 then some (q.1,true) else (ke (-1) s e p).map fun x=>(q.1++[x],q.2))=(o.bind fun q=>if bt s p=46 then some (q.1,true) else (ke 0 s e p).map fun x=>(q.1++[x],q.2)):=by
    congr 1
    funext q
    by_cases h46:bt s p=46
    ·rw[if_pos h46,if_pos h46]
    ·rw[if_neg h46,if_neg h46,xZ h1 h46 hb h2]
   rw[e1]
   exact ih _ (fun q hq=>h q (by simp[hq]))
 refine this K _ (fun p hp=>⟨hok p hp,?_⟩)
 unfold iw at hl
 rw[List.any_eq_false] at hl
 simpa using hl p hp
structure fV (s:ByteArray) (R:List ax):Prop where
 all:yI s R
 prog:nG s R
 unb:∀ r∈R,mt s r.2.1 r.2.2=false
theorem uY {s:ByteArray} {R:List ax} (h:cA s 0 0 (some R)):fV s R:=⟨wS h,vI h,Ah h⟩
def aD (s:ByteArray) (R:List ax) (i:In):vM:=iz (-1) s i.env (R.getD i.rule (0,[],[])).2.2
theorem wH {s:ByteArray} {R:List ax} (hR:fV s R) {F:List au} {i:In} (h:i∈bz 0 s F R R.length):aD s R i=fZ s i.env (R.getD i.rule (0,[],[])).2.2:=by
 unfold bz at h
 obtain⟨k,hk,hm⟩:=List.mem_flatMap.mp h
 have hk':k<R.length:=by simpa using hk
 have e:R.getD k (0,[],[])=R[k]:=by simp[List.getD,List.getElem?_eq_getElem hk']
 have er:i.rule=k:=by
  have hm2:=hm
  unfold dz at hm2
  exact (pL (R.getD k (0,[],[])).2.1 [] [In.start k] (fun j hj=>by rw[List.mem_singleton] at hj;rw[hj];exact⟨rfl,rfl⟩) i hm2).1
 rw[e] at hm
 have hr:=List.getElem_mem hk'
 obtain⟨_,bs,hcb,hbs⟩:=l7 (F:=F) (r:=k) (hR.all.walk _ hr).conds (hR.all.bound _ hr) R[k].2.1.length (Nat.le_refl _)
 rw[List.take_length] at hcb
 have hu:=hR.unb _ hr
 unfold mt at hu
 rw[hcb] at hu
 rw[←jE] at hm
 unfold aD
 rw[er,e]
 exact xm (hbs i hm) (hR.prog.acts _ hr).1 hu
theorem iH (com:List (List Wr)) (c:Nat):∀ t:Nat,t≤com.length→aM (dy com c) t=((dK com (aw c) t).2,lH (dK com (aw c) t).1):=by
 induction com using qJ with
 |h0=>
  intro t ht
  have:t=0:=by simpa using ht
  subst this
  rfl
 |h1 com l ih=>
  intro t ht
  rw[List.length_append,List.length_singleton] at ht
  rw[mq]
  by_cases e:t=com.length+1
  ·subst e
   rw[mI]
   unfold bR
   cases h1:bd (aw c) l with
   |some k=>
    simp only[Option.map_some]
    rw[eH,if_pos (by simp)]
   |none=>
    simp only[Option.map_none,List.append_nil]
    rw[←ih com.length (Nat.le_refl _)]
    exact nT (m:=com.length) (fun p hp=>(lq hp).2) (by omega)
  ·rw[jR _ _ _ _ (by omega),←ih t (by omega)]
   cases bR l (aw c) with
   |none=>simp
   |some v=>rw[eH,if_neg (by simp only;omega)]
def AE (S:br):aI:=⟨S.num,S.snap,S.wr.length,fun c=>bR S.wr (aw c),fun c=>match bd (aw c) S.wr with|some k=>S.snap+((k:Int)+1)|none=>0,none⟩
theorem EU {P:aI} {S:br} (h:df P S.nf) (f:Nat→Int×Option Int):di P f 60=di (AE S) f 60:=by
 unfold di
 apply dH
 intro c hc
 have hc60:c<60:=by simpa using hc
 congr 1
 unfold cM
 have hw:P.wr c=bR S.wr (aw c):=h.wr c hc60
 rw[hw]
 show _=match bR S.wr (aw c) with|some v=>v.map fun u=>(u,(AE S).tm c)|none=>(f c).2.map fun v=>(v,(f c).1)
 unfold bR
 cases hl:bd (aw c) S.wr with
 |none=>rfl
 |some k=>
  have ht:=h.tm c hc60 k hl
  simp only[Option.map_some]
  have e:(AE S).tm c=S.snap+((k:Int)+1):=by
   show (match bd (aw c) S.wr with|some k=>S.snap+((k:Int)+1)|none=>0)=_
   rw[hl]
  rw[e,ht]
  rfl
def fe (com:List (List Wr)) (S:br):List au:=di (AE S) (fS com S.snap) 60
def Fh (com:List (List Wr)) (S:br):In→Bool:=fun i=>xV S.fired (i8 com S i)
def mD (s:ByteArray) (R:List ax) (com:List (List Wr)) (S:br):List In:=bK (iZ (eh s R)) (jv s (fe com S) R (Fh com S) R.length)
theorem qP {α β:Type} {f g:β→α→β}:∀ {l:List α} (b:β),(∀ x∈l,∀ b,f b x=g b x)→l.foldl f b=l.foldl g b
 |[],_,_=>rfl
 |a::l,b,h=>by
  rw[List.foldl_cons,List.foldl_cons,h a (by simp)]
  exact qP _ (fun x hx=>h x (by simp[hx]))
theorem Cv {com:List (List Wr)} {S:br} (h0:0≤S.snap) (h1:S.snap≤com.length) {i:In} (hi:∀ q∈i.facts,q∈fe com S):i8 com S i=mB S.snap i:=by
 unfold i8 mB
 refine qP _ (fun q hq b=>?_)
 congr 1
 obtain⟨_,hs⟩:=yP (hi q hq)
 unfold cM at hs
 unfold kD Dk
 have hwr:(AE S).wr q.1=bR S.wr (aw q.1):=rfl
 rw[hwr] at hs
 unfold bR at hs
 cases hl:bd (aw q.1) S.wr with
 |some k=>
  rw[hl] at hs
  simp only[Option.map_some] at hs
  have e:(AE S).tm q.1=S.snap+((k:Int)+1):=by
   show (match bd (aw q.1) S.wr with|some k=>S.snap+((k:Int)+1)|none=>0)=_
   rw[hl]
  obtain⟨u,_,hu⟩:=Option.map_eq_some_iff.mp hs
  have ht:q.2.2=S.snap+((k:Int)+1):=by rw[←hu];exact e
  simp only[]
  rw[if_pos (by omega)]
  have:(q.2.2 - S.snap - 1).toNat=k:=by omega
  rw[this]
 |none=>
  rw[hl] at hs
  simp only[Option.map_none] at hs
  obtain⟨u,_,hu⟩:=Option.map_eq_some_iff.mp hs
  have hv:=iH com q.1 S.snap.toNat (by omega)
  have e0:((S.snap.toNat:Nat):Int)=S.snap:=Int.toNat_of_nonneg h0
  rw[e0] at hv
  have ht:q.2.2=(dK com (aw q.1) S.snap.toNat).2:=by
   rw[←hu]
   show (aM (dy com q.1) S.snap).1=_
   rw[hv]
  have hb:=nS com (aw q.1) S.snap.toNat
  simp only[]
  rw[if_neg (by omega),ht]
structure is (s:ByteArray) (R:List ax) (com:List (List Wr)) (sn:Int) (P:aI) (fm:Nat→Option Int) (S:br):Prop where
 ses:df P S.nf
 fire:kx s R com P fm S
 ok:yC P (fS com sn)
 snap:S.snap=sn
 lo:0≤sn
 hi:sn≤com.length
theorem is.saw {s:ByteArray} {R:List ax} {com:List (List Wr)} {sn:Int} {P:aI} {fm:Nat→Option Int} {S:br} (h:is s R com sn P fm S):di P (fS com sn) 60=fe com S:=by
 unfold fe
 rw[h.snap]
 exact EU h.ses _
theorem pz {s:ByteArray} {F:List au} {R:List ax} (hF:rp F) {i:In} (h:i∈bz 0 s F R R.length):∀ q∈i.facts,q∈F:=by
 unfold bz at h
 obtain⟨k,_,hm⟩:=List.mem_flatMap.mp h
 exact (pB hF k _ i hm).facts
theorem yi {sn:Int} {r i:In} (h1:r.rule=i.rule) (h2:r.facts=i.facts):mB sn r=mB sn i:=by
 unfold mB fN
 rw[h1,h2]
theorem Dp {l:List ByteArray} {k:ByteArray}:xV l k=true↔k∈l:=by
 unfold xV
 rw[List.any_eq_true]
 constructor
 ·rintro⟨t,ht,e⟩
  have e1:t.toList=k.toList:=by simpa using e
  rw[ByteArray.toList_eq,ByteArray.toList_eq] at e1
  have:t=k:=ByteArray.ext (Array.ext' e1)
  rw[←this]
  exact ht
 ·intro h
  exact⟨k,h,by simp⟩
theorem is.facts {s:ByteArray} {R:List ax} {com:List (List Wr)} {sn:Int} {P:aI} {fm:Nat→Option Int} {S:br} (h:is s R com sn P fm S):rp (fe com S):=by
 rw[←h.saw]
 exact h.ok.facts
theorem is.one {s:ByteArray} {R:List ax} {com:List (List Wr)} {sn:Int} {P:aI} {fm:Nat→Option Int} {S:br} (h:is s R com sn P fm S) (hR:fV s R) {i:In} (hi:i∈bz 0 s (fe com S) R R.length):qS s R i∧DK i.facts∧(∀ q∈i.facts,cM P (fS com sn) q.1=some q.2)∧i8 com S i=mB sn i:=by
 have hF:=h.facts
 have hm:=pz hF hi
 obtain⟨Rs,_,_,ht,_⟩:=h.fire
 rw[h.snap] at ht
 have hsn:∀ q∈i.facts,cM P (fS com sn) q.1=some q.2:=fun q hq=>by
  have:=hm q hq
  rw[←h.saw] at this
  exact (yP this).2
 refine⟨xz hF (iv _ _ _) hR.all.walk hi,fun q hq=>?_,hsn,?_⟩
 ·have h1:=hF q (hm q hq)
  have h2:=oh ht (hsn q hq)
  exact⟨h1.1,h1.2.1,h1.2.2,by omega⟩
 ·have:=Cv (by rw[h.snap];exact h.lo) (by rw[h.snap];exact h.hi) hm
  rw[h.snap] at this
  exact this
theorem is.fd {s:ByteArray} {R:List ax} {com:List (List Wr)} {sn:Int} {P:aI} {fm:Nat→Option Int} {S:br} (h:is s R com sn P fm S) (hR:fV s R) {i:In} (hi:i∈bz 0 s (fe com S) R R.length):Fh com S i=ww fm i:=by
 obtain⟨h1,h2,h3,h4⟩:=h.one hR hi
 obtain⟨Rs,e1,e2,ht,hf⟩:=h.fire
 rw[h.snap] at e1 ht hf
 have hiff:=Ee hf ht h1 h3
 rw[←e2] at hiff
 rw[Bool.eq_iff_iff,hiff]
 unfold Fh
 rw[Dp,h4,e1,List.mem_map]
 constructor
 ·rintro⟨r,hr,hk⟩
  have h9:=hR.all.nine
  have hs1:=(hf.shape r hr).1
  have hs2:=h1.1
  obtain⟨a,b⟩:=BX (hf.facts r hr) h2 (by omega) (by omega) hk
  exact⟨r,hr,a,b⟩
 ·rintro⟨r,hr,a,b⟩
  exact⟨r,hr,yi a b⟩
theorem is.open {s:ByteArray} {R:List ax} {com:List (List Wr)} {sn:Int} {P:aI} {fm:Nat→Option Int} {S:br} (h:is s R com sn P fm S) (hR:fV s R):bK (iZ (eh s R)) (jv s (di P (fS com sn) 60) R (ww fm) R.length)=mD s R com S:=by
 unfold mD
 rw[h.saw]
 congr 1
 unfold jv
 refine List.filter_congr (fun i hi=>?_)
 rw[h.fd hR hi]
theorem sK {s:ByteArray} {R:List ax} {com:List (List Wr)} {S:br} {i:In} (h:i∈mD s R com S):i∈bz 0 s (fe com S) R R.length:=(List.mem_filter.mp (lz.mp h)).1
theorem is.fst {s:ByteArray} {R:List ax} {com:List (List Wr)} {sn:Int} {P:aI} {fm:Nat→Option Int} {S:br} (h:is s R com sn P fm S) (hR:fV s R):jF s R (fS com sn) P fm=(mD s R com S).head?:=by
 unfold jF gA
 rw[h.open hR]
theorem is.step {s:ByteArray} {R:List ax} {com:List (List Wr)} {sn:Int} {P:aI} {fm:Nat→Option Int} {S:br} (h:is s R com sn P fm S) (hR:fV s R) {i:In} (hi:i∈bz 0 s (fe com S) R R.length) {q:List (Nat×Option Int)×Bool} (hq:fZ s i.env (R.getD i.rule (0,[],[])).2.2=some q) :
  is s R com sn (puts P q.1) (cH fm (bW i) (some (b9 i.facts))) (S.fire (i8 com S i) q.1):=by
 obtain⟨h1,h2,h3,h4⟩:=h.one hR hi
 obtain⟨Rs,e1,e2,ht,hf⟩:=h.fire
 rw[h.snap] at e1 ht hf
 have hr:i.rule<R.length:=h1.1
 have e:R.getD i.rule (0,[],[])=R[i.rule]:=by simp[List.getD,List.getElem?_eq_getElem hr]
 rw[e] at hq
 have hdig:=mV (hR.prog.acts _ (List.getElem_mem hr)).1 _ (Nat.le_refl _) q (by rw[List.take_length];exact hq)
 refine⟨h.ses.puts q.1 hdig,⟨Rs++[i],?_,?_,?_,?_⟩,h.ok.puts (fun x hx=>(hdig x hx).2),h.snap,h.lo,h.hi⟩
 ·show S.fired++[i8 com S i]=(Rs++[i]).map (mB S.snap)
  rw[List.map_append,h.snap,e1,h4]
  rfl
 ·rw[nU,e2]
 ·show my _ (fS com S.snap)
  rw[h.snap]
  exact ht.puts q.1
 ·show iT s R _ (fS com S.snap) _
  rw[h.snap]
  exact (hf.fire ht h1 h2 h3).puts q.1
theorem uW {s:ByteArray} {R:List ax} {com:List (List Wr)} {sn:Int} (hR:fV s R):∀ (n:Nat) {P:aI} {fm:Nat→Option Int} {S:br},is s R com sn P fm S→
  (db (mD s R com) (aD s R) (i8 com) n S).1=(((cU s R (fS com sn) n P fm).1.1:Int),(cU s R (fS com sn) n P fm).1.2)∧is s R com sn (cU s R (fS com sn) n P fm).2.1 (cU s R (fS com sn) n P fm).2.2 (db (mD s R com) (aD s R) (i8 com) n S).2
 |0,P,fm,S,h=>by
  have hf:=h.fst hR
  unfold db cU
  rw[hf]
  cases hm:mD s R com S with
  |nil=>exact⟨rfl,h⟩
  |cons i l=>exact⟨rfl,h⟩
 |n+1,P,fm,S,h=>by
  have hf:=h.fst hR
  unfold db cU
  rw[hf]
  cases hm:mD s R com S with
  |nil=>exact⟨rfl,h⟩
  |cons i l=>
   have hi:i∈bz 0 s (fe com S) R R.length:=sK (s:=s) (R:=R) (com:=com) (S:=S) (by rw[hm];simp)
   have ha:=wH hR hi
   simp only[List.head?_cons]
   rw[ha]
   cases ho:fZ s i.env (R.getD i.rule (0,[],[])).2.2 with
   |none=>exact⟨rfl,h⟩
   |some q=>
    simp only[]
    have hst:=h.step hR hi ho
    cases hq:q.2 with
    |true=>exact⟨rfl,hst⟩
    |false=>
     obtain⟨i1,i2⟩:=uW hR n hst
     simp only[Bool.false_eq_true,if_false]
     refine⟨?_,i2⟩
     rw[i1]
     simp
def Ev (p:Int×Option Int):List Value:=[.int .i64 p.1,.bool p.2.isSome,.int .i64 (p.2.getD 0)]
theorem Ch {w:World} {g:Nat} {l:gt} (hc:∀ i v,(cq l)[i]?=some v→w.cell? ⟨g,i,none⟩=some v) {k:Nat} (hk:k<l.length):w.rangeAt g (k*3) (Ev l[k]):=by
 intro j v hv
 obtain⟨h0,h1,h2⟩:=iX l k hk
 match j,hv with
 |0,hv=>exact hc _ _ (h0.trans hv)
 |1,hv=>exact hc _ _ (h1.trans hv)
 |2,hv=>exact hc _ _ (h2.trans hv)
 |j+3,hv=>simp[Ev] at hv
theorem uJ {α:Type} (P:α→Bool) (l:List α) (k:Nat) (hk:k<l.length):(l.take (k+1)).filter P=(l.take k).filter P++(if P l[k] then [l[k]] else []):=by
 rw[List.take_succ_eq_append_getElem hk,List.filter_append]
 congr 1
 simp only[List.filter_cons,List.filter_nil]
theorem C4:(Tryz.prog.info? 138).map (·.size)=some 3:=by kernel_rfl
theorem vN (b o:Nat) (l:gt) (t:Int) (a:Option Addr) (cp:Nat) (cs:Array Value) (ty:TypeId) (w:World) (hl:(l.length+1)*24≤140737488355328)
  (hb:w.heap[b]?=some (.cells cs ty (0,0))) (hc:w.cell? ⟨b,o+1,none⟩=some (.slice a l.length cp)) (hrow:w.ownsRow 0 138 3 (.slice a l.length cp) l.length (cq l)) :
  Calls Tryz.prog 100 #[.pointer (some ⟨b,o,none⟩),.int .i64 t] w fun e w'=>e=.returned (.int .i64 ((l.length:Int) - ((dx l t).length:Int)))∧
   ∃ v w3,w3.ownsRow w.heap.size 138 3 v (dx l t).length (cq (dx l t))∧w.grownBy w3 none∧w'=w3.setCell ⟨b,o+1,none⟩ v:=by
 obtain⟨i0,hi0,hz0,hz1,hz2⟩:=info_parts Tryz.info138
 have hbl:=lt_of_block hb
 have HAT:=af (yu b o l t a l.length cp w (by omega) hc hrow)
 have HROW:=af hrow
 have HC:=af hc
 have HB:=af hb
 have HBB:Hid (∀ p,jQ l t p=(decide (t<p.1)||(decide (p.1=(aM l t).1)&&p.2.isSome))):=af (fun _=>rfl)
 have HSW:Hid (dx l t=l.filter (jQ l t)):=af rfl
 generalize hP:jQ l t=P at HBB HSW
 generalize hbv:aM l t=bv at HAT HBB
 obtain⟨bs,bq⟩:=bv
 unfold se at HAT
 simp only at HAT HBB
 obtain⟨bf,hbf⟩:∃ bf,bf=bq.isSome:=⟨_,rfl⟩
 obtain⟨bw,hbw⟩:∃ bw,bw=bq.getD 0:=⟨_,rfl⟩
 rw[←hbf,←hbw] at HAT
 rw[HSW.out]
 clear hrow hc hb hP hbv hbf hbw HSW
 go_enter Tryz.func100,Tryz.ntmps100
 go_wp2_with fail
 go_at_call 94
 refine HAT.out.mono ?_
 rintro e w1 ⟨rfl,hg1⟩
 have hs1:=hg1.size
 have hc1:=am hg1 HC.out
 have HG1:=af hg1
 clear hg1 HAT
 have hbz1:b≠w1.heap.size:=by omega
 have hbs:(w1.alloc (.cells #[.int .i64 bs,.bool bf,.int .i64 bw] 138)).cell? ⟨w1.heap.size,0,none⟩=some (.int .i64 bs):=by rw[cell_of_row _ _ _ _ _ _ (heap_alloc_new w1 _)];rfl
 have HBS:=af hbs
 have HGW:Hid (w.grownBy (w1.alloc (.cells #[.int .i64 bs,.bool bf,.int .i64 bw] 138)) none):=af (ab HG1.out _)
 have hc2:=am HGW.out HC.out
 clear hbs hc1
 go_wp2_with fail
 generalize hW0:w1.alloc (.cells #[.int .i64 bs,.bool bf,.int .i64 bw] 138)=W0 at HBS HGW ⊢
 have hs0:w1.heap.size<W0.heap.size:=by rw[←hW0];simp
 clear hW0 HG1
 go_loopw [6,19] (fun t i wr=>∃ k:Nat,k≤l.length∧i=.int .i64 k∧wr.ownsRow W0.heap.size 138 3 t ((l.take k).filter P).length (cq ((l.take k).filter P))∧W0.grownBy wr none) (fun _ i _=>l.length - (intOf i).toNat)
 case atStart=>exact⟨0,by omega,rfl,World.ownsRow_nil _ _ _ _,ag _ _⟩
 case round=>
  obtain⟨k,hk,rfl,hown,hg⟩:=hrel
  have HG:=af hg
  have HOW:=af hown
  by_cases hlt:k<l.length
  ·have how:=aq HROW.out (ae HGW.out hg) (fun g hg=>by cases hg)
   obtain⟨gf,rfl,_,_,hgl,hcell⟩:=aC how (by omega)
   obtain⟨L,hL⟩:∃ L,L=Ev l[k]:=⟨_,rfl⟩
   have HRG:Hid (wr.rangeAt gf (k*3) L):=af (by rw[hL];exact Ch hcell hlt)
   have hLl:L.length=3:=by rw[hL];rfl
   have HIL:Hid ((Tryz.prog.info? 138).map (·.size)=some L.length):=af (by rw[hLl];exact C4)
   have HIZ:Hid ((Tryz.prog.info? 138).map (fun i=>(i.zero,i.size))=some (some (.agg #[.int .i64 0,.bool false,.int .i64 0]),L.length)):=af (by rw[hLl];kernel_rfl)
   have HON:Hid (∀ u∈L,u.oneCell'=true):=af (by
    rw[hL]
    intro u hu
    simp[Ev] at hu
    rcases hu with h|h|h <;> subst h <;> rfl)
   have HONA:Hid (L.toArray.all (·.oneCell')=true):=af (all_oneCell_toArray HON.out)
   have HBN:Hid ((wr.alloc (.cells L.toArray 138)).heap[wr.heap.size]?=some (.cells L.toArray 138 (0,0))):=af (heap_alloc_new wr _)
   obtain⟨st,hst⟩:∃ st:Int,st=l[k].1:=⟨_,rfl⟩
   obtain⟨fl,hfl⟩:∃ fl:Bool,fl=l[k].2.isSome:=⟨_,rfl⟩
   have k0:(wr.alloc (.cells L.toArray 138)).cell? ⟨wr.heap.size,0,none⟩=some (.int .i64 st):=by
    rw[cell_of_row _ _ _ _ _ _ HBN.out,hL,hst]
    rfl
   have k1:(wr.alloc (.cells L.toArray 138)).cell? ⟨wr.heap.size,1,none⟩=some (.bool fl):=by
    rw[cell_of_row _ _ _ _ _ _ HBN.out,hL,hfl]
    rfl
   have kb:(wr.alloc (.cells L.toArray 138)).cell? ⟨w1.heap.size,0,none⟩=some (.int .i64 bs):=am (ab HG.out _) HBS.out
   have HRN:Hid ((wr.alloc (.cells L.toArray 138)).rangeAt wr.heap.size 0 L):=af (aE HBN.out rfl)
   have hjl:((l.take k).filter P).length≤k:=Nat.le_trans (List.length_filter_le _ _) (List.length_take_le k l)
   obtain⟨a2,m,c,rfl⟩:=an hown
   have em:=ar hown
   subst em
   have hsz:=hg.size
   have hne:gf≠wr.heap.size:=by omega
   have hne1:w1.heap.size≠wr.heap.size:=by omega
   have HSUC:=af (uJ P l k hlt)
   have HBK:Hid (P l[k]=(decide (t<st)||(decide (st=bs)&&fl))):=af (by rw[HBB.out,←hst,←hfl])
   have HFIN:Hid (P l[k]=true→∀ (w3:World) (v':Value),w3.ownsRow W0.heap.size 138 3 v' (((l.take k).filter P).length+1) (cq ((l.take k).filter P)++L)→w3.ownsRow W0.heap.size 138 3 v' ((l.take (k+1)).filter P).length (cq ((l.take (k+1)).filter P))):=af (fun e w3 v' h=>by
    rw[HSUC.out,if_pos e,ny,List.length_append]
    rw[hL] at h
    exact h)
   have HSKIP:Hid (P l[k]=false→(l.take (k+1)).filter P=(l.take k).filter P):=af (fun e=>by rw[HSUC.out,e];simp)
   rw[HBK.out] at HFIN HSKIP
   have HWG:Hid (∀ o,wr.grownBy (wr.alloc o) none):=af (fun o=>ab (ag _ _) o)
   have HOWG:Hid (∀ W,wr.grownBy W none→W.ownsRow W0.heap.size 138 3 (.slice a2 ((l.take k).filter P).length c) ((l.take k).filter P).length (cq ((l.take k).filter P))):=af (fun W hW=>aq HOW.out hW (fun g hg=>by cases hg))
   have how1:=HOWG.out _ (ab (HWG.out (.cells L.toArray 138)) (.cells L.toArray 138))
   have HLT:=af (fun g hg=>(HOW.out.lt g hg).1)
   obtain⟨nl,hnl⟩:∃ nl,nl=((l.take k).filter P).length:=⟨_,rfl⟩
   obtain⟨xs,hxs⟩:∃ xs,xs=cq ((l.take k).filter P):=⟨_,rfl⟩
   rw[←hnl] at HFIN HOWG HOW HLT hjl how1 ⊢
   rw[←hxs] at HFIN HOWG HOW how1
   have HNL:=af hnl
   have HXS:=af hxs
   clear hnl hxs HSUC hL how hcell hown hg hst hfl HBK
   by_cases he:st=bs
   ·have q:(st==bs)=true:=by simpa using he
    cases fl with
    |true=>
     by_cases hg2:t<st
     ·have HFI:=af (HFIN.out (by simp[hg2]))
      clear he HFIN HSKIP
      go_wp2_with (first
       |(refine wpList_load_mid rfl 138 (.tmp 21) rfl gf (k*3) rfl L _ HRG.out Tryz.underlying138 rfl HIL.out ?_)
       |(refine ay rfl 138 (.tmp 8) (.tmp 22) rfl _ L rfl rfl hLl.symm HIL.out HONA.out ?_)
       |(refine wpList_load_mid rfl 138 (.tmp 8) rfl wr.heap.size 0 rfl L _ HRN.out Tryz.underlying138 rfl HIL.out ?_)
       |(refine bp rfl 84 138 (.tmp 41) rfl _ L rfl Tryz.underlying84 HIZ.out (by omega) (by omega) ?_)
       |(at_builtin;refine wpList_append_own _ rfl (.tmp 40) (.tmp 42) 84 rfl (W0.heap.size) 138 i0 (.agg #[.int .i64 0,.bool false,.int .i64 0]) 3 24 Tryz.underlying84 hi0 hz0 hz1 hz2 rfl (by decide) _ _ _ rfl how1 _ 1 1 L rfl (by omega) (fun j u hj=>bj hj) HON.out (by unfold maxLen;omega) (by omega) (by simp;omega) ?_))
      intro v' w3 hown3 hg3 _
      have HO3:=af hown3
      have HG3:=af hg3
      clear hown3 hg3
      go_wp2_with fail
      go_roundw
      case rel=>exact⟨k+1,by omega,by go_num,HFI.out _ _ HO3.out,aK (ae HG.out (ab (HWG.out _) _)) HG3.out HLT.out⟩
      case measure=>simp[intOf];omega
     ·have HFI:=af (HFIN.out (by simp[he]))
      clear he HFIN HSKIP
      go_wp2_with (first
       |(refine wpList_load_mid rfl 138 (.tmp 21) rfl gf (k*3) rfl L _ HRG.out Tryz.underlying138 rfl HIL.out ?_)
       |(refine ay rfl 138 (.tmp 8) (.tmp 22) rfl _ L rfl rfl hLl.symm HIL.out HONA.out ?_)
       |(refine wpList_load_mid rfl 138 (.tmp 8) rfl wr.heap.size 0 rfl L _ HRN.out Tryz.underlying138 rfl HIL.out ?_)
       |(refine bp rfl 84 138 (.tmp 41) rfl _ L rfl Tryz.underlying84 HIZ.out (by omega) (by omega) ?_)
       |(at_builtin;refine wpList_append_own _ rfl (.tmp 40) (.tmp 42) 84 rfl (W0.heap.size) 138 i0 (.agg #[.int .i64 0,.bool false,.int .i64 0]) 3 24 Tryz.underlying84 hi0 hz0 hz1 hz2 rfl (by decide) _ _ _ rfl how1 _ 1 1 L rfl (by omega) (fun j u hj=>bj hj) HON.out (by unfold maxLen;omega) (by omega) (by simp;omega) ?_))
      intro v' w3 hown3 hg3 _
      have HO3:=af hown3
      have HG3:=af hg3
      clear hown3 hg3
      go_wp2_with fail
      go_roundw
      case rel=>exact⟨k+1,by omega,by go_num,HFI.out _ _ HO3.out,aK (ae HG.out (ab (HWG.out _) _)) HG3.out HLT.out⟩
      case measure=>simp[intOf];omega
    |false=>
     by_cases hg2:t<st
     ·have HFI:=af (HFIN.out (by simp[hg2]))
      clear he HFIN HSKIP
      go_wp2_with (first
       |(refine wpList_load_mid rfl 138 (.tmp 21) rfl gf (k*3) rfl L _ HRG.out Tryz.underlying138 rfl HIL.out ?_)
       |(refine ay rfl 138 (.tmp 8) (.tmp 22) rfl _ L rfl rfl hLl.symm HIL.out HONA.out ?_)
       |(refine wpList_load_mid rfl 138 (.tmp 8) rfl wr.heap.size 0 rfl L _ HRN.out Tryz.underlying138 rfl HIL.out ?_)
       |(refine bp rfl 84 138 (.tmp 41) rfl _ L rfl Tryz.underlying84 HIZ.out (by omega) (by omega) ?_)
       |(at_builtin;refine wpList_append_own _ rfl (.tmp 40) (.tmp 42) 84 rfl (W0.heap.size) 138 i0 (.agg #[.int .i64 0,.bool false,.int .i64 0]) 3 24 Tryz.underlying84 hi0 hz0 hz1 hz2 rfl (by decide) _ _ _ rfl how1 _ 1 1 L rfl (by omega) (fun j u hj=>bj hj) HON.out (by unfold maxLen;omega) (by omega) (by simp;omega) ?_))
      intro v' w3 hown3 hg3 _
      have HO3:=af hown3
      have HG3:=af hg3
      clear hown3 hg3
      go_wp2_with fail
      go_roundw
      case rel=>exact⟨k+1,by omega,by go_num,HFI.out _ _ HO3.out,aK (ae HG.out (ab (HWG.out _) _)) HG3.out HLT.out⟩
      case measure=>simp[intOf];omega
     ·have HSK:=af (HSKIP.out (by simp[hg2]))
      clear he HFIN HSKIP
      go_wp2_with (first
       |(refine wpList_load_mid rfl 138 (.tmp 21) rfl gf (k*3) rfl L _ HRG.out Tryz.underlying138 rfl HIL.out ?_)
       |(refine ay rfl 138 (.tmp 8) (.tmp 22) rfl _ L rfl rfl hLl.symm HIL.out HONA.out ?_))
      go_roundw
      case rel=>exact⟨k+1,by omega,by go_num,by rw[HSK.out,←HNL.out,←HXS.out];exact HOWG.out _ (HWG.out _),ae HG.out (HWG.out _)⟩
      case measure=>simp[intOf];omega
   ·have q:(st==bs)=false:=by simpa using he
    by_cases hg2:t<st
    ·have HFI:=af (HFIN.out (by simp[hg2]))
     clear he HFIN HSKIP
     go_wp2_with (first
      |(refine wpList_load_mid rfl 138 (.tmp 21) rfl gf (k*3) rfl L _ HRG.out Tryz.underlying138 rfl HIL.out ?_)
      |(refine ay rfl 138 (.tmp 8) (.tmp 22) rfl _ L rfl rfl hLl.symm HIL.out HONA.out ?_)
      |(refine wpList_load_mid rfl 138 (.tmp 8) rfl wr.heap.size 0 rfl L _ HRN.out Tryz.underlying138 rfl HIL.out ?_)
      |(refine bp rfl 84 138 (.tmp 41) rfl _ L rfl Tryz.underlying84 HIZ.out (by omega) (by omega) ?_)
      |(at_builtin;refine wpList_append_own _ rfl (.tmp 40) (.tmp 42) 84 rfl (W0.heap.size) 138 i0 (.agg #[.int .i64 0,.bool false,.int .i64 0]) 3 24 Tryz.underlying84 hi0 hz0 hz1 hz2 rfl (by decide) _ _ _ rfl how1 _ 1 1 L rfl (by omega) (fun j u hj=>bj hj) HON.out (by unfold maxLen;omega) (by omega) (by simp;omega) ?_))
     intro v' w3 hown3 hg3 _
     have HO3:=af hown3
     have HG3:=af hg3
     clear hown3 hg3
     go_wp2_with fail
     go_roundw
     case rel=>exact⟨k+1,by omega,by go_num,HFI.out _ _ HO3.out,aK (ae HG.out (ab (HWG.out _) _)) HG3.out HLT.out⟩
     case measure=>simp[intOf];omega
    ·have HSK:=af (HSKIP.out (by simp[hg2,he]))
     clear he HFIN HSKIP
     go_wp2_with (first
      |(refine wpList_load_mid rfl 138 (.tmp 21) rfl gf (k*3) rfl L _ HRG.out Tryz.underlying138 rfl HIL.out ?_)
      |(refine ay rfl 138 (.tmp 8) (.tmp 22) rfl _ L rfl rfl hLl.symm HIL.out HONA.out ?_))
     go_roundw
     case rel=>exact⟨k+1,by omega,by go_num,by rw[HSK.out,←HNL.out,←HXS.out];exact HOWG.out _ (HWG.out _),ae HG.out (HWG.out _)⟩
     case measure=>simp[intOf];omega
  ·have hkl:k=l.length:=by omega
   subst hkl
   rw[List.take_length] at HOW hown
   have hcw:=am (ae HGW.out hg) HC.out
   have hbw:wr.heap[b]?=some (.cells cs ty (0,0)):=((ae HGW.out hg).block b hbl (by simp)).trans HB.out
   have z0:=ai hbw (o+1)
   obtain⟨a2,m,c,rfl⟩:=an hown
   have em:=ar hown
   subst em
   have hle:(l.filter P).length≤l.length:=List.length_filter_le _ _
   have HFI:Hid (wr.ownsRow w.heap.size 138 3 (.slice a2 (l.filter P).length c) (l.filter P).length (cq (l.filter P))):=af (bO HOW.out (by have:=HGW.out.size;omega))
   have HGF:=af (ae HGW.out hg)
   obtain⟨nf,hnf⟩:∃ nf,nf=(l.filter P).length:=⟨_,rfl⟩
   rw[←hnf] at HFI hle ⊢
   have HNF:=af hnf
   clear hg hown hbw HOW hnf
   go_wp2_with fail
   go_ret
   rw[←HNF.out]
   exact⟨by go_num,_,_,HFI.out,HGF.out,rfl⟩
end Go.Proofs.YthlhbjnkohinmaaGreat
