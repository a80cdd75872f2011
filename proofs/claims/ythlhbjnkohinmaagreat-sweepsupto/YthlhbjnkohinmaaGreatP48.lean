import Derived.Test.YthlhbjnkohinmaaGreatP27
import Derived.Test.YthlhbjnkohinmaaGreatP12
import Derived.Test.YthlhbjnkohinmaaGreatP42
import Derived.Test.YthlhbjnkohinmaaGreatP45
import Derived.Test.YthlhbjnkohinmaaGreatP43
namespace Go.Proofs.YthlhbjnkohinmaaGreat
set_option maxRecDepth 100000
set_option maxHeartbeats 8000000
open Go.RowKit
def br.nf (S:br):br:={ S with fired:=[] }
def dz (com:List (List Wr))(c:Nat):gu:=(List.range com.length).filterMap fun t=>(bQ (com.getD t []) (ax c)).map fun v=>(((t:Nat):Int)+1,v)
theorem mg (com:List (List Wr))(l:List Wr)(c:Nat):dz (com++[l]) c=dz com c++(match bQ l (ax c) with|some v=>[((com.length:Int)+1,v)]|none=>[]):=by
 unfold dz
 rw[List.length_append,List.length_singleton,List.range_succ,List.filterMap_append]
 congr 1
 ·apply dG
  intro t ht
  rw[ny _ _ _ (by simpa using ht)]
 ·have:(com++[l]).getD com.length []=l:=by simp[List.getD]
  simp only[List.filterMap_cons,List.filterMap_nil,this]
  cases bQ l (ax c) <;> rfl
theorem lp {com:List (List Wr)}{c:Nat}{p:Int×Option Int}(h:p∈dz com c):1≤p.1∧p.1≤com.length:=by
 unfold dz at h
 obtain⟨t,ht,hm⟩:=List.mem_filterMap.mp h
 obtain⟨v,_,rfl⟩:=Option.map_eq_some_iff.mp hm
 have:t<com.length:=by simpa using ht
 simp only
 omega
def ap.full (X:ap)(com:List (List Wr)):ap:={ X with hist:=dz com }
def rG (com:List (List Wr)):Nat:=keptN ⟨((.bool false,0),ByteArray.empty,[]),0,fun _=>.zero,0,fun _=>0,dz com⟩ 60
def bm.nf (E:bm):bm:={ E with opn:=E.opn.map br.nf,kept:=List.replicate (rG E.com) (0,ByteArray.empty,0) }
theorem bm.nf_len (E:bm):E.nf.opn.length=E.opn.length:=by simp[bm.nf]
theorem dd.add {P:aJ}{S:br}(h:dd P S)(c:Nat)(hc:c<60)(p:Wr)(v:Option Int)(hp:p.1=ax c)(hv:lH p.2=v):dd (P.put c v) (S.add p):=by
 refine⟨h.num,h.pos,h.snap,?_,?_,?_,h.fired,h.mks⟩
 ·intro c' hc'
  show cG P.wr c (some v) c'=bQ (S.wr++[p]) (ax c')
  rw[lT]
  by_cases e:c'=c
  ·subst e
   rw[aW,if_pos hp,hv]
  ·rw[bF _ _ _ e,if_neg (by rw[hp];exact fun he=>e (gQ hc' hc he.symm))]
   exact h.wr c' hc'
 ·show P.made+1=((S.wr++[p]).length:Nat)
  rw[h.made]
  simp
 ·intro c' hc' k hk
  show cG P.tm c (P.snap+(P.made+1)) c'=S.snap+((k:Int)+1)
  have hk':bc (ax c') (S.wr++[p])=some k:=hk
  rw[j9] at hk'
  by_cases e:c'=c
  ·subst e
   rw[if_pos hp] at hk'
   cases hk'
   rw[aW,h.made,h.snap]
  ·rw[if_neg (by rw[hp];exact fun he=>e (gQ hc' hc he.symm))] at hk'
   rw[bF _ _ _ e]
   exact h.tm c' hc' k hk'
theorem BS {x:Nat×Option Int}(h:∀ v,x.2=some v→0≤v∧v≤9):lH (iq x).2=x.2:=by
 obtain⟨c,v⟩:=x
 cases v with
 |none=>rfl
 |some v=>
  have:=h v rfl
  show lH v=some v
  unfold lH
  rw[if_neg (by omega)]
theorem dd.puts:∀ (ws:List (Nat×Option Int)){P:aJ}{S:br} ,dd P S→(∀ x∈ws,x.1<60∧∀ v,x.2=some v→0≤v∧v≤9)→dd (puts P ws) { S with wr:=S.wr++ws.map iq }
 |[],P,S,h,_=>by simpa [Go.Proofs.YthlhbjnkohinmaaGreat.puts] using h
 |x::ws,P,S,h,hw=>by
  have h1:=hw x (by simp)
  have h2:=dd.puts ws (h.add x.1 h1.1 (iq x) x.2 rfl (BS h1.2)) (fun y hy=>hw y (by simp[hy]))
  have e:({ S.add (iq x) with wr:=(S.add (iq x)).wr++ws.map iq }:br)={ S with wr:=S.wr++(x::ws).map iq }:=by simp[br.add]
  rw[e] at h2
  exact h2
theorem ic.set {X:ap}{E:bm}{L:List (Nat×br)}(h:ic X E L){i:Nat}(hi:i<L.length){P':aJ}{S':br}(hs:dd P' S')(hnum:S'.num=L[i].2.num)(hsn:S'.snap=L[i].2.snap):
  ∃ L',ic (X.setSes L[i].1 P') (pw E i S') L':=by
 refine⟨L.set i (L[i].1,S'),?_⟩
 have hm1:(L.set i (L[i].1,S')).map (·.1)=L.map (·.1):=by
  apply List.ext_getElem (by simp)
  intro j h1 h2
  simp[List.getElem_set]
  intro e
  subst e
  rfl
 have hm2:(L.set i (L[i].1,S')).map (·.2.num)=L.map (·.2.num):=by
  apply List.ext_getElem (by simp)
  intro j h1 h2
  simp[List.getElem_set]
  intro e
  subst e
  exact hnum
 have hmem:∀ q∈L.set i (L[i].1,S'),(q∈L∧q.1≠L[i].1)∨q=(L[i].1,S'):=by
  intro q hq
  obtain⟨j,hj,rfl⟩:=List.mem_iff_getElem.mp hq
  have hj2:j<L.length:=by simpa using hj
  rw[List.getElem_set]
  by_cases e:i=j
  ·subst e;right;simp
  ·left
   rw[if_neg e]
   refine⟨List.getElem_mem hj2,?_⟩
   intro he
   have hn:=h.places
   rw[List.nodup_iff_pairwise_ne,List.pairwise_iff_getElem] at hn
   rcases Nat.lt_or_gt_of_ne e with hlt|hlt
   ·exact hn i j (by simpa using hi) (by simpa using hj2) hlt (by simpa using he.symm)
   ·exact hn j i (by simpa using hj2) (by simpa using hi) hlt (by simpa using he)
 refine { opn:=?_,places:=by rw[hm1];exact h.places,lt:=?_,ses:=?_,free:=?_,nums:=by rw[hm2];exact h.nums,opened:=h.opened,openedPos:=h.openedPos,numLe:=?_,snap:=?_,latest:=h.latest,hist:=h.hist,histS:=h.histS,histLe:=h.histLe,last:=h.last,room:=h.room,kept:=(eF rfl 60).trans h.kept }
 ·show E.opn.set i S'=_
  rw[h.opn,List.map_set]
 ·intro q hq
  rcases hmem q hq with ⟨h1,_⟩|rfl
  ·exact h.lt q h1
  ·exact h.lt L[i] (List.getElem_mem hi)
 ·intro q hq
  rcases hmem q hq with ⟨h1,h2⟩|rfl
  ·show dd (cG X.ses _ _ q.1) q.2
   rw[bF _ _ _ h2]
   exact h.ses q h1
  ·show dd (cG X.ses _ _ L[i].1) S'
   rw[aW]
   exact hs
 ·intro j hj hjL
  show (cG X.ses _ _ j).num=0
  by_cases e:j=L[i].1
  ·subst e
   have:(L[i].1,S')∈L.set i (L[i].1,S'):=List.mem_iff_getElem.mpr ⟨i,by simpa using hi,by simp⟩
   exact absurd rfl (hjL (L[i].1,S') this)
  ·rw[bF _ _ _ e]
   apply h.free j hj
   intro q hq he
   have:q.1∈(L.set i (L[i].1,S')).map (·.1):=by rw[hm1];exact List.mem_map.mpr ⟨q,hq,rfl⟩
   obtain⟨q',hq',e'⟩:=List.mem_map.mp this
   exact hjL q' hq' (e'.trans he)
 ·intro q hq
  rcases hmem q hq with ⟨h1,_⟩|rfl
  ·exact h.numLe q h1
  ·show S'.num≤_
   rw[hnum]
   exact h.numLe L[i] (List.getElem_mem hi)
 ·intro q hq
  rcases hmem q hq with ⟨h1,_⟩|rfl
  ·exact h.snap q h1
  ·show 0≤S'.snap∧S'.snap≤_
   rw[hsn]
   exact h.snap L[i] (List.getElem_mem hi)
theorem wG (X:ap)(com:List (List Wr)):aZ (X.full com)=((aZ X).1,(aZ X).2.full com):=by
 have e:be (X.full com) 0=be X 0:=rfl
 unfold aZ
 rw[e]
 cases be X 0 <;> rfl
theorem AE (X:ap)(com:List (List Wr))(n:Int)(s:ByteArray):cg (X.full com) n s=((cg X n s).1,(cg X n s).2.full com):=by
 have e:aM (X.full com) n=aM X n:=rfl
 unfold cg
 rw[e]
 cases aM X n with
 |none=>rfl
 |some k=>cases eQ s <;> rfl
theorem uS (X:ap)(com:List (List Wr))(n:Int)(s:ByteArray):aX (X.full com) n s=((aX X n s).1,(aX X n s).2.full com):=by
 have e:aM (X.full com) n=aM X n:=rfl
 unfold aX
 rw[e]
 cases aM X n with
 |none=>rfl
 |some k=>cases eC s <;> rfl
theorem uV (X:ap)(com:List (List Wr))(n:Int):aY (X.full com) n=((aY X n).1,(aY X n).2.full com):=by
 have e:aM (X.full com) n=aM X n:=rfl
 unfold aY
 rw[e]
 cases aM X n <;> rfl
theorem lu (l:List br)(n:Int):eK (l.map br.nf) n=eK l n:=by
 unfold eK
 rw[List.findIdx?_map]
 rfl
theorem pP (l:List br)(n:Int):du (l.map br.nf) n=(du l n).map br.nf:=by
 unfold du
 rw[List.find?_map]
 rfl
theorem yX (E:bm)(k:Nat)(p:Wr):(jc E k p).nf=jc E.nf k p:=by
 unfold jc bm.nf
 congr 1
 apply List.ext_getElem (by simp)
 intro j h1 h2
 simp only[List.getElem_map,List.getElem_modify]
 split <;> rfl
theorem yw (E:bm)(n:Int):(dF E n).nf=dF E.nf n:=by
 unfold dF bm.nf
 congr 1
 rw[List.filter_map]
 rfl
theorem Ej (E:bm)(k:Nat)(S:br):(pw E k S).nf=pw E.nf k S.nf:=by
 unfold pw bm.nf
 congr 1
 rw[List.map_set]
theorem zp (E:bm):cC E.nf=((cC E).1,(cC E).2.nf):=by
 unfold cC
 rw[E.nf_len]
 split
 ·rfl
 ·have:({ E with opened:=E.opened+1,opn:=E.opn++[⟨E.opened+1,E.com.length,[],[]⟩] }:bm).nf={ E.nf with opened:=E.nf.opened+1,opn:=E.nf.opn++[⟨E.nf.opened+1,E.nf.com.length,[],[]⟩] }:=by
   simp[bm.nf,br.nf]
  rw[this]
  rfl
theorem ED (E:bm)(n:Int)(s:ByteArray):fD E.nf n s=((fD E n s).1,(fD E n s).2.nf):=by
 have e:eK E.nf.opn n=eK E.opn n:=lu _ _
 unfold fD
 rw[e]
 cases eK E.opn n with
 |none=>rfl
 |some k=>
  cases eQ s with
  |false=>rfl
  |true=>exact Prod.ext rfl (yX E k _).symm
theorem BF (E:bm)(n:Int)(s:ByteArray):cS E.nf n s=((cS E n s).1,(cS E n s).2.nf):=by
 have e:eK E.nf.opn n=eK E.opn n:=lu _ _
 unfold cS
 rw[e]
 cases eK E.opn n with
 |none=>rfl
 |some k=>
  cases eC s with
  |false=>rfl
  |true=>exact Prod.ext rfl (yX E k _).symm
theorem Bf (E:bm)(n:Int):cR E.nf n=((cR E n).1,(cR E n).2.nf):=by
 have e:eK E.nf.opn n=eK E.opn n:=lu _ _
 unfold cR
 rw[e]
 cases eK E.opn n with
 |none=>rfl
 |some k=>exact Prod.ext rfl (yw E n).symm
def dH (K:List (Int×Wr))(c:Nat):gu:=K.filterMap fun v=>if v.2.1=ax c then some (v.1,lH v.2.2) else none
theorem qN (K K':List (Int×Wr))(c:Nat):dH (K++K') c=dH K c++dH K' c:=by unfold dH;rw[List.filterMap_append]
structure pF (X:ap)(E:bm)(lo:Int):Prop where
 le:lo≤E.com.length
 snap:∀ S∈E.opn,lo≤S.snap
 seen:∀ c,c<60→∀ t:Int,lo≤t→t≤E.com.length→e8 (aN (X.hist c) t) (aN (dz E.com c) t)
structure lV (X:ap)(E:bm):Prop where
 hist:∀ c,c<60→X.hist c=dH E.kept c
 cell:∀ v∈E.kept,∃ c,c<60∧v.2.1=ax c
 was:∀ v∈E.kept,1≤v.1∧v.1≤E.com.length∧dK E.com v.2.1 v.1.toNat=(v.2.2,v.1)
def fS (com:List (List Wr))(sn:Int):Nat→Int×Option Int:=fun c=>aN (dz com c) sn
def kC (s:ByteArray)(R:List ay)(com:List (List Wr))(P:aJ)(fm:Nat→Option Int)(S:br):Prop:=∃ Rs,S.fired=Rs.map (mB S.snap)∧fm=sL Rs∧my P (fS com S.snap)∧iP s R P (fS com S.snap) Rs
def l4 (X:ap)(F:dN)(E:bm):Prop:=∀ S∈E.opn,∀ k,k<8→(X.ses k).num=S.num→kC X.src.2.1 X.src.2.2 E.com (X.ses k) (F k) S
structure dm (X:ap)(F:dN)(E:bm):Prop where
 sim:∃ L,ic (X.full E.com) E.nf L
 his:∃ lo,pF X E lo
 kept:lV X E
 fire:l4 X F E
theorem dm.pos {X:ap}{F:dN}{E:bm}(h:dm X F E){S:br}(hS:S∈E.opn):1≤S.num∧S.num≤E.opened∧0≤S.snap∧S.snap≤E.com.length:=by
 obtain⟨L,hs⟩:=h.sim
 have hm:S.nf∈E.nf.opn:=List.mem_map.mpr ⟨S,hS,rfl⟩
 rw[hs.opn] at hm
 obtain⟨q,hq,e⟩:=List.mem_map.mp hm
 have h1:=(hs.ses q hq).pos
 have h2:=hs.numLe q hq
 have h3:=hs.snap q hq
 rw[e] at h1 h2 h3
 exact⟨h1,h2,h3⟩
theorem dm.opened {X:ap}{F:dN}{E:bm}(h:dm X F E):X.opened=E.opened:=by
 obtain⟨L,hs⟩:=h.sim
 exact hs.opened
theorem dm.latest {X:ap}{F:dN}{E:bm}(h:dm X F E):X.latest=E.com.length:=by
 obtain⟨L,hs⟩:=h.sim
 exact hs.latest
theorem dm.room {X:ap}{F:dN}{E:bm}(h:dm X F E):X.room=E.room:=by
 obtain⟨L,hs⟩:=h.sim
 exact hs.room
theorem dm.len {X:ap}{F:dN}{E:bm}(h:dm X F E):E.opn.length≤8:=by
 obtain⟨L,hs⟩:=h.sim
 have:=hs.len
 rw[E.nf_len] at this
 exact this
theorem dm.find {X:ap}{F:dN}{E:bm}(h:dm X F E)(n:Int):
  (aM X n=none∧eK E.opn n=none∧du E.opn n=none)∨∃ (i k:Nat) (hi:i<E.opn.length),k<8∧E.opn[i].num=n∧(X.ses k).num=n∧aM X n=some k∧eK E.opn n=some i∧du E.opn n=some E.opn[i]∧dd (X.ses k) E.opn[i].nf∧clash X (X.ses k)=d9 E E.opn[i]:=by
 obtain⟨L,hs⟩:=h.sim
 rcases hs.find n with ⟨h1,h2,h3⟩|⟨i,hi,hi2,e,hn,h1,h2,h3⟩
 ·refine .inl ⟨h1,?_,?_⟩
  ·have:eK E.nf.opn n=eK E.opn n:=lu _ _
   rw[←this];exact h2
  ·have:du E.nf.opn n=(du E.opn n).map br.nf:=pP _ _
   rw[this] at h3
   simpa using h3
 ·have hi3:i<E.opn.length:=by rw[←E.nf_len];exact hi2
  have e2:E.nf.opn[i]=E.opn[i].nf:=by simp[bm.nf]
  have e3:L[i].2=E.opn[i].nf:=by rw[←e,e2]
  have e4:eK E.opn n=some i:=by
   have:eK E.nf.opn n=eK E.opn n:=lu _ _
   rw[←this];exact h2
  obtain⟨_,g1,g2⟩:=iH e4
  have hs1:=hs.ses _ (List.getElem_mem hi)
  refine .inr ⟨i,L[i].1,hi3,hs.lt _ (List.getElem_mem hi),g1,?_,h1,e4,fX hi3 g1 g2,?_,?_⟩
  ·have:=hs1.num
   rw[hn] at this
   exact this
  ·rw[←e3]
   exact hs1
  ·have hc:=hs.clash (List.getElem_mem hi)
   rw[e3] at hc
   exact hc
theorem pF.same {X X':ap}{E E':bm}{lo:Int}(h:pF X E lo)(hh:X'.hist=X.hist)(hc:E'.com=E.com)(ho:∀ S'∈E'.opn,S'.snap=E.com.length∨∃ S∈E.opn,S'.snap=S.snap):pF X' E' lo:=by
 refine⟨by rw[hc];exact h.le,fun S' hS'=>?_,fun c hl t h1 h2=>?_⟩
 ·rcases ho S' hS' with e|⟨S,hS,e⟩
  ·rw[e];exact h.le
  ·rw[e];exact h.snap S hS
 ·rw[hh,hc]
  rw[hc] at h2
  exact h.seen c hl t h1 h2
theorem lV.same {X X':ap}{E E':bm}(h:lV X E)(hh:X'.hist=X.hist)(hc:E'.com=E.com)(hk:E'.kept=E.kept):lV X' E':=
 ⟨fun c hl=>by rw[hh,hk];exact h.hist c hl,fun v hv=>h.cell v (by rw[←hk];exact hv),fun v hv=>by rw[hc];exact h.was v (by rw[←hk];exact hv)⟩
theorem kC.put {s:ByteArray}{R:List ay}{com:List (List Wr)}{P:aJ}{fm:Nat→Option Int}{S:br}(h:kC s R com P fm S)(c:Nat)(v:Option Int):kC s R com (P.put c v) fm S:=by
 obtain⟨Rs,h1,h2,h3,h4⟩:=h
 exact⟨Rs,h1,h2,h3.put c v,h4.put c v⟩
theorem kC.ses {s:ByteArray}{R:List ay}{com:List (List Wr)}{P:aJ}{fm:Nat→Option Int}{S S':br}(h:kC s R com P fm S)(h1:S'.fired=S.fired)(h2:S'.snap=S.snap):kC s R com P fm S':=by
 obtain⟨Rs,k1,k2,k3,k4⟩:=h
 exact⟨Rs,by rw[h1,h2];exact k1,k2,by rw[h2];exact k3,by rw[h2];exact k4⟩
theorem pJ {E:bm}{i:Nat}{p:Wr}{S':br}(h:S'∈(jc E i p).opn):∃ S∈E.opn,S'.num=S.num∧S'.snap=S.snap∧S'.fired=S.fired:=by
 obtain⟨j,hj,rfl⟩:=List.mem_iff_getElem.mp h
 have hj2:j<E.opn.length:=by simpa [jc] using hj
 refine⟨E.opn[j],List.getElem_mem hj2,?_⟩
 simp only[jc,List.getElem_modify]
 split <;> exact⟨rfl,rfl,rfl⟩
theorem l4.write {X:ap}{F:dN}{E:bm}(h:l4 X F E)(k:Nat)(c:Nat)(v:Option Int)(i:Nat)(p:Wr):l4 (X.setSes k ((X.ses k).put c v)) (cy X (X.setSes k ((X.ses k).put c v)) F) (jc E i p):=by
 intro S' hS' j hj hn
 obtain⟨S,hS,e1,e2,e3⟩:=pJ hS'
 have hnum:((X.setSes k ((X.ses k).put c v)).ses j).num=(X.ses j).num:=by
  show (cG X.ses k _ j).num=_
  by_cases e:j=k
  ·subst e;rw[aW];rfl
  ·rw[bF _ _ _ e]
 have h0:=h S hS j hj (by rw[←hnum,hn,e1])
 have hF:cy X (X.setSes k ((X.ses k).put c v)) F j=F j:=by unfold cy;rw[if_pos hnum]
 rw[hF]
 refine kC.ses (S:=S) ?_ e3 e2
 show kC X.src.2.1 X.src.2.2 E.com (cG X.ses k ((X.ses k).put c v) j) (F j) S
 by_cases e:j=k
 ·subst e;rw[aW];exact h0.put c v
 ·rw[bF _ _ _ e];exact h0
theorem gd (X:ap)(F:dN):cy X X F=F:=by
 funext k
 unfold cy
 rw[if_pos rfl]
theorem dm.open {X:ap}{F:dN}{E:bm}(h:dm X F E):(aZ X).1=(cC E).1∧dm (aZ X).2 (cy X (aZ X).2 F) (cC E).2:=by
 have hpos:=fun S (hS:S∈E.opn)=>h.pos hS
 have hop:=h.opened
 have hla:=h.latest
 obtain⟨⟨L,hs⟩,⟨lo,hh⟩,hk,hf⟩:=h
 obtain⟨h1,L',h2⟩:=hs.open
 have hop0:0≤E.opened:=hs.openedPos
 rw[wG,zp] at h1 h2
 have hcom:(cC E).2.com=E.com:=by unfold cC;split <;> rfl
 have hkept:(cC E).2.kept=E.kept:=by unfold cC;split <;> rfl
 have hhist:(aZ X).2.hist=X.hist:=by unfold aZ;cases be X 0 <;> rfl
 have hopn:∀ S'∈(cC E).2.opn,S'∈E.opn∨(S'=⟨E.opened+1,E.com.length,[],[]⟩∧E.opn.length<8):=fun S' hS'=>by
  unfold cC at hS'
  split at hS'
  ·exact .inl hS'
  ·rename_i h8
   rcases List.mem_append.mp hS' with h|h
   ·exact .inl h
   ·rw[List.mem_singleton] at h
    exact .inr ⟨h,by omega⟩
 refine⟨h1,⟨L',by rw[hcom];exact h2⟩,⟨lo,hh.same hhist hcom (fun S' hS'=>?_)⟩,hk.same hhist hcom hkept,fun S' hS' j hj hn=>?_⟩
 ·rcases hopn S' hS' with e|⟨e,_⟩
  ·exact .inr ⟨S',e,rfl⟩
  ·left
   rw[e]
 ·have hsrc:(aZ X).2.src=X.src:=by unfold aZ;cases be X 0 <;> rfl
  rw[hsrc,hcom]
  have hses:(aZ X).2=X∨∃ k,(X.ses k).num=0∧(aZ X).2.ses=cG X.ses k (.new (X.opened+1) X.latest):=by
   unfold aZ
   cases hz:be X 0 with
   |none=>exact .inl rfl
   |some k=>exact .inr ⟨k,(bx hz).2,rfl⟩
  rcases hses with e0|⟨k,hk0,e0⟩
  ·rw[e0] at hn
   rcases hopn S' hS' with e|⟨e,_⟩
   ·have:=hf S' e j hj hn
    rw[e0,gd]
    exact this
   ·exfalso
    by_cases hfull:(X.ses j).num=E.opened+1
    ·have h3:=hs.free j hj
     by_cases hex:∀ q∈L,q.1≠j
     ·have:=h3 hex
      have h4:(X.ses j).num=0:=this
      omega
     ·simp only[Classical.not_forall] at hex
      obtain⟨q,hq,hne⟩:=hex
      have hne':q.1=j:=Classical.byContradiction hne
      have h5:=(hs.ses q hq).num
      have h6:=hs.numLe q hq
      rw[hne'] at h5
      have h7:(X.ses j).num=q.2.num:=h5
      have h8:q.2.num≤E.opened:=h6
      omega
    ·exact hfull (by rw[hn,e])
  ·by_cases ej:j=k
   ·have hnew:(aZ X).2.ses j=.new (X.opened+1) X.latest:=by rw[e0,ej,aW]
    have hnum:((aZ X).2.ses j).num=X.opened+1:=by rw[hnew];rfl
    have hF:cy X (aZ X).2 F j=vy:=by
     unfold cy
     rw[if_neg]
     rw[hnum,ej,hk0]
     omega
    rcases hopn S' hS' with e|⟨e,_⟩
    ·exfalso
     have:=hpos S' e
     omega
    ·rw[hF,hnew,e]
     refine⟨[],rfl,rfl,⟨?_,Int.le_refl 0,fun c v hv=>(by cases hv),fun c v hv=>?_⟩,⟨fun r hr=>(by cases hr),fun r hr=>(by cases hr),fun r hr=>(by cases hr),fun r hr=>(by cases hr),List.Pairwise.nil⟩⟩
     ·show 0≤X.latest
      rw[hla]
      omega
     ·have hm:=oo hv
      have h1:1≤(aN (dz E.com c) E.com.length).1∧(aN (dz E.com c) E.com.length).1≤E.com.length:=lp hm
      show 0<(aN (dz E.com c) E.com.length).1∧(aN (dz E.com c) E.com.length).1≤X.latest
      rw[hla]
      exact⟨by omega,h1.2⟩
   ·have hold:(aZ X).2.ses j=X.ses j:=by rw[e0,bF _ _ _ ej]
    have hF:cy X (aZ X).2 F j=F j:=by
     unfold cy
     rw[if_pos (by rw[hold])]
    rw[hold] at hn
    rw[hF,hold]
    rcases hopn S' hS' with e|⟨e,_⟩
    ·exact hf S' e j hj hn
    ·exfalso
     rw[e] at hn
     have h3:=hs.free j hj
     by_cases hex:∀ q∈L,q.1≠j
     ·have:=h3 hex
      have h4:(X.ses j).num=0:=this
      have h5:(X.ses j).num=E.opened+1:=hn
      have h6:0≤E.opened:=hop0
      omega
     ·simp only[Classical.not_forall] at hex
      obtain⟨q,hq,hne⟩:=hex
      have hne':q.1=j:=Classical.byContradiction hne
      have h5:=(hs.ses q hq).num
      have h6:=hs.numLe q hq
      rw[hne'] at h5
      have h7:(X.ses j).num=q.2.num:=h5
      have h8:q.2.num≤E.opened:=h6
      have h9:(X.ses j).num=E.opened+1:=hn
      omega
theorem dm.put {X:ap}{F:dN}{E:bm}(h:dm X F E)(n:Int)(s:ByteArray):(cg X n s).1=(fD E n s).1∧dm (cg X n s).2 (cy X (cg X n s).2 F) (fD E n s).2:=by
 have hfd:=h.find n
 have h0:=h
 obtain⟨⟨L,hs⟩,⟨lo,hh⟩,hk,hf⟩:=h
 obtain⟨h1,L',h2⟩:=hs.put n s
 rw[AE,ED] at h1 h2
 refine⟨h1,?_⟩
 rcases hfd with ⟨e1,e2,_⟩|⟨i,k,hi,_,_,_,e1,e2,_⟩
 ·have a1:(cg X n s).2=X:=by unfold cg;rw[e1]
  have a2:(fD E n s).2=E:=by unfold fD;rw[e2]
  rw[a1,a2,gd]
  exact h0
 ·cases hb:eQ s with
  |false=>
   have a1:(cg X n s).2=X:=by unfold cg;rw[e1,hb];rfl
   have a2:(fD E n s).2=E:=by unfold fD;rw[e2,hb];rfl
   rw[a1,a2,gd]
   exact h0
  |true=>
   have a1:(cg X n s).2=X.setSes k ((X.ses k).put (dL s) (some (bt s 2 - 48))):=by unfold cg;rw[e1,hb];rfl
   have a2:(fD E n s).2=jc E i (s.extract 0 2,bt s 2 - 48):=by unfold fD;rw[e2,hb];rfl
   rw[a1,a2] at h2
   rw[a1,a2]
   refine⟨⟨L',h2⟩,⟨lo,hh.same rfl rfl (fun S' hS'=>?_)⟩,hk.same rfl rfl rfl,hf.write k _ _ i _⟩
   obtain⟨S,hS,_,e,_⟩:=pJ hS'
   exact .inr ⟨S,hS,e⟩
theorem dm.clear {X:ap}{F:dN}{E:bm}(h:dm X F E)(n:Int)(s:ByteArray):(aX X n s).1=(cS E n s).1∧dm (aX X n s).2 (cy X (aX X n s).2 F) (cS E n s).2:=by
 have hfd:=h.find n
 have h0:=h
 obtain⟨⟨L,hs⟩,⟨lo,hh⟩,hk,hf⟩:=h
 obtain⟨h1,L',h2⟩:=hs.clear n s
 rw[uS,BF] at h1 h2
 refine⟨h1,?_⟩
 rcases hfd with ⟨e1,e2,_⟩|⟨i,k,hi,_,_,_,e1,e2,_⟩
 ·have a1:(aX X n s).2=X:=by unfold aX;rw[e1]
  have a2:(cS E n s).2=E:=by unfold cS;rw[e2]
  rw[a1,a2,gd]
  exact h0
 ·cases hb:eC s with
  |false=>
   have a1:(aX X n s).2=X:=by unfold aX;rw[e1,hb];rfl
   have a2:(cS E n s).2=E:=by unfold cS;rw[e2,hb];rfl
   rw[a1,a2,gd]
   exact h0
  |true=>
   have a1:(aX X n s).2=X.setSes k ((X.ses k).put (dL s) none):=by unfold aX;rw[e1,hb];rfl
   have a2:(cS E n s).2=jc E i (s,-1):=by unfold cS;rw[e2,hb];rfl
   rw[a1,a2] at h2
   rw[a1,a2]
   refine⟨⟨L',h2⟩,⟨lo,hh.same rfl rfl (fun S' hS'=>?_)⟩,hk.same rfl rfl rfl,hf.write k _ _ i _⟩
   obtain⟨S,hS,_,e,_⟩:=pJ hS'
   exact .inr ⟨S,hS,e⟩
theorem l4.drop {X:ap}{F:dN}{E:bm}(h:l4 X F E)(hp:∀ S∈E.opn,1≤S.num)(k:Nat)(n:Int):l4 (X.setSes k .zero) (cy X (X.setSes k .zero) F) (dF E n):=by
 intro S hS j hj hn
 have hS0:S∈E.opn:=(List.mem_filter.mp hS).1
 by_cases e:j=k
 ·exfalso
  have h1:(X.setSes k .zero).ses j=.zero:=by rw[e];exact aW _ _ _
  rw[h1] at hn
  have h2:(0:Int)=S.num:=hn
  have:=hp S hS0
  omega
 ·have h1:(X.setSes k .zero).ses j=X.ses j:=bF _ _ _ e
  have hF:cy X (X.setSes k .zero) F j=F j:=by unfold cy;rw[if_pos (by rw[h1])]
  rw[h1] at hn
  rw[hF,h1]
  exact h S hS0 j hj hn
theorem jT {E:bm}{n:Int}{S:br}(h:S∈(dF E n).opn):S∈E.opn:=(List.mem_filter.mp h).1
theorem dm.abort {X:ap}{F:dN}{E:bm}(h:dm X F E)(n:Int):(aY X n).1=(cR E n).1∧dm (aY X n).2 (cy X (aY X n).2 F) (cR E n).2:=by
 have hfd:=h.find n
 have hpos:=fun S (hS:S∈E.opn)=>h.pos hS
 have h0:=h
 obtain⟨⟨L,hs⟩,⟨lo,hh⟩,hk,hf⟩:=h
 obtain⟨h1,L',h2⟩:=hs.abort n
 rw[uV,Bf] at h1 h2
 refine⟨h1,?_⟩
 rcases hfd with ⟨e1,e2,_⟩|⟨i,k,hi,_,_,_,e1,e2,_⟩
 ·have a1:(aY X n).2=X:=by unfold aY;rw[e1]
  have a2:(cR E n).2=E:=by unfold cR;rw[e2]
  rw[a1,a2,gd]
  exact h0
 ·have a1:(aY X n).2=X.setSes k .zero:=by unfold aY;rw[e1]
  have a2:(cR E n).2=dF E n:=by unfold cR;rw[e2]
  rw[a1,a2] at h2
  rw[a1,a2]
  exact⟨⟨L',h2⟩,⟨lo,hh.same rfl rfl (fun S' hS'=>.inr ⟨S',jT hS',rfl⟩)⟩,hk.same rfl rfl rfl,hf.drop (fun S hS=>(hpos S hS).1) k n⟩
theorem pF.at {X:ap}{E:bm}{lo:Int}(h:pF X E lo){S:br}(hS:S∈E.opn)(hl:S.snap≤E.com.length){c:Nat}(hc:c<60):e8 (aN (X.hist c) S.snap) (fS E.com S.snap c):=h.seen c hc _ (h.snap S hS) hl
theorem dm.view {X:ap}{F:dN}{E:bm}(h:dm X F E)(n:Int):fL X n=match du E.opn n with|some S=>(ce (cF E.com S 60),0)|none=>(ByteArray.empty,6):=by
 have hfd:=h.find n
 have hpos:=fun S (hS:S∈E.opn)=>h.pos hS
 obtain⟨⟨L,hs⟩,⟨lo,hh⟩,hk,hf⟩:=h
 have hv:=hs.view n
 rcases hfd with ⟨e1,_,e2⟩|⟨i,k,hi,_,hn,hkn,e1,_,e2,hss,_⟩
 ·rw[e2]
  unfold fL
  rw[e1]
 ·have e3:du E.nf.opn n=some E.opn[i].nf:=by
   have:du E.nf.opn n=(du E.opn n).map br.nf:=pP _ _
   rw[this,e2];rfl
  have e4:aM (X.full E.com) n=some k:=e1
  rw[e3] at hv
  rw[e2]
  unfold fL at hv ⊢
  rw[e4] at hv
  rw[e1]
  have hS:=List.getElem_mem hi
  have e5:oF X k=oF (X.full E.com) k:=by
   unfold oF
   congr 1
   apply dG
   intro c hc
   have hc60:c<60:=by simpa using hc
   have e6:jh X k c=jh (X.full E.com) k c:=by
    unfold jh
    show (match (X.ses k).wr c with|some v=>v|none=>i7 (X.hist c) (X.ses k).snap)=match (X.ses k).wr c with|some v=>v|none=>i7 (dz E.com c) (X.ses k).snap
    cases (X.ses k).wr c with
    |some v=>rfl
    |none=>
     have hsn:(X.ses k).snap=E.opn[i].snap:=hss.snap
     rw[hsn]
     have:=(hh.at hS (hpos _ hS).2.2.2 hc60).1
     rw[gp] at this
     unfold fS at this
     rw[gp] at this
     exact this
   rw[e6]
  simp only[] at hv ⊢
  rw[e5]
  exact hv
theorem vu {com:List (List Wr)}{c:ByteArray}:∀ {t:Nat},1≤(dK com c t).2→(dK com c t).2≤t∧dK com c (dK com c t).2.toNat=dK com c t
 |0,h=>by simp[dK] at h
 |t+1,h=>by
  cases hl:bc c (com.getD t []) with
  |some k=>
   have e:dK com c (t+1)=(((com.getD t []).getD k (ByteArray.empty,0)).2,(t:Int)+1):=by rw[dK,hl]
   rw[e]
   refine⟨by simp,?_⟩
   have:((t:Int)+1).toNat=t+1:=by omega
   simp only[this]
   exact e
  |none=>
   have e:dK com c (t+1)=dK com c t:=by rw[dK,hl]
   rw[e] at h ⊢
   obtain⟨h1,h2⟩:=vu h
   exact⟨by omega,h2⟩
theorem vr {com:List (List Wr)}{c:ByteArray}{t:Nat}:∀ {u:Nat},t≤u→(dK com c u).2≤t→dK com c t=dK com c u
 |0,h,_=>by
  have:t=0:=by omega
  subst this
  rfl
 |u+1,h,hs=>by
  by_cases e:t=u+1
  ·subst e;rfl
  ·cases hl:bc c (com.getD u []) with
   |some k=>
    have e:dK com c (u+1)=(((com.getD u []).getD k (ByteArray.empty,0)).2,(u:Int)+1):=by rw[dK,hl]
    rw[e] at hs
    simp only at hs
    omega
   |none=>
    have e:dK com c (u+1)=dK com c u:=by rw[dK,hl]
    rw[e] at hs ⊢
    exact vr (by omega) hs
theorem rZ:∀ (l:List br)(z:Int) ,l.foldl (fun o S=>if S.snap<o then S.snap else o) z≤z∧(∀ S∈l,l.foldl (fun o S=>if S.snap<o then S.snap else o) z≤S.snap)∧(l.foldl (fun o S=>if S.snap<o then S.snap else o) z=z∨∃ S∈l,l.foldl (fun o S=>if S.snap<o then S.snap else o) z=S.snap)
 |[],z=>⟨Int.le_refl z,fun S hS=>(by cases hS),.inl rfl⟩
 |S::l,z=>by
  rw[List.foldl_cons]
  obtain⟨h1,h2,h3⟩:=rZ l (if S.snap<z then S.snap else z)
  have h4:(if S.snap<z then S.snap else z)≤z∧(if S.snap<z then S.snap else z)≤S.snap:=by split <;> omega
  refine⟨by omega,fun T hT=>?_,?_⟩
  ·rcases List.mem_cons.mp hT with e|hT
   ·rw[e];omega
   ·exact h2 T hT
  ·rcases h3 with h3|⟨T,hT,h3⟩
   ·by_cases e:S.snap<z
    ·rw[if_pos e] at h3 ⊢
     exact .inr ⟨S,by simp,h3⟩
    ·rw[if_neg e] at h3 ⊢
     exact .inl h3
   ·exact .inr ⟨T,by simp[hT],h3⟩
theorem pQ (X:ap):∀ m,cN X m≤X.latest∧(∀ k,k<m→0<(X.ses k).num→cN X m≤(X.ses k).snap)∧(cN X m=X.latest∨∃ k,k<m∧0<(X.ses k).num∧cN X m=(X.ses k).snap)
 |0=>⟨Int.le_refl _,fun k hk=>(by omega),.inl rfl⟩
 |m+1=>by
  obtain⟨h1,h2,h3⟩:=pQ X m
  have e:cN X (m+1)=if 0<(X.ses m).num∧(X.ses m).snap<cN X m then (X.ses m).snap else cN X m:=rfl
  rw[e]
  by_cases hc:0<(X.ses m).num∧(X.ses m).snap<cN X m
  ·rw[if_pos hc]
   refine⟨by omega,fun k hk hn=>?_,.inr ⟨m,by omega,hc.1,rfl⟩⟩
   by_cases ek:k=m
   ·subst ek;exact Int.le_refl _
   ·have:=h2 k (by omega) hn
    omega
  ·rw[if_neg hc]
   refine⟨h1,fun k hk hn=>?_,?_⟩
   ·by_cases ek:k=m
    ·subst ek
     have:¬(X.ses k).snap<cN X k:=fun e=>hc ⟨hn,e⟩
     omega
    ·exact h2 k (by omega) hn
   ·rcases h3 with h3|⟨k,hk,a,b⟩
    ·exact .inl h3
    ·exact .inr ⟨k,by omega,a,b⟩
theorem dm.place {X:ap}{F:dN}{E:bm}(h:dm X F E){S:br}(hS:S∈E.opn):∃ k,k<8∧(X.ses k).num=S.num∧(X.ses k).snap=S.snap:=by
 obtain⟨L,hs⟩:=h.sim
 have hm:S.nf∈E.nf.opn:=List.mem_map.mpr ⟨S,hS,rfl⟩
 rw[hs.opn] at hm
 obtain⟨q,hq,e⟩:=List.mem_map.mp hm
 have h1:=hs.ses q hq
 rw[e] at h1
 exact⟨q.1,hs.lt q hq,h1.num,h1.snap⟩
theorem dm.held {X:ap}{F:dN}{E:bm}(h:dm X F E){k:Nat}(hk:k<8)(hn:0<(X.ses k).num):∃ S∈E.opn,(X.ses k).num=S.num∧(X.ses k).snap=S.snap:=by
 obtain⟨L,hs⟩:=h.sim
 by_cases hex:∀ q∈L,q.1≠k
 ·have:(X.ses k).num=0:=hs.free k hk hex
  omega
 ·simp only[Classical.not_forall] at hex
  obtain⟨q,hq,hne⟩:=hex
  have hne':q.1=k:=Classical.byContradiction hne
  have h1:=hs.ses q hq
  rw[hne'] at h1
  have hm:q.2∈E.nf.opn:=by rw[hs.opn];exact List.mem_map.mpr ⟨q,hq,rfl⟩
  obtain⟨S,hS,e⟩:=List.mem_map.mp hm
  rw[←e] at h1
  exact⟨S,hS,h1.num,h1.snap⟩
theorem dm.old {X:ap}{F:dN}{E:bm}(h:dm X F E):cN X 8=jF E:=by
 obtain⟨a1,a2,a3⟩:=pQ X 8
 obtain⟨b1,b2,b3⟩:=rZ E.opn E.com.length
 have hl:=h.latest
 have h1:cN X 8≤jF E:=by
  unfold jF
  rcases b3 with e|⟨S,hS,e⟩
  ·rw[e];omega
  ·rw[e]
   obtain⟨k,hk,e1,e2⟩:=h.place hS
   rw[←e2]
   exact a2 k hk (by rw[e1];have:=(h.pos hS).1;omega)
 have h2:jF E≤cN X 8:=by
  unfold jF
  rcases a3 with e|⟨k,hk,hn,e⟩
  ·rw[e,hl];exact b1
  ·rw[e]
   obtain⟨S,hS,_,e2⟩:=h.held hk hn
   rw[e2]
   exact b2 S hS
 omega
def lJ (K:List (Int×Wr)):Nat→Nat
 |0=>0
 |n+1=>lJ K n+(dH K n).length
theorem qs (v:Int×Wr)(K:List (Int×Wr))(c0:Nat)(h0:c0<60)(hc:v.2.1=ax c0):∀ n,n≤60→lJ (v::K) n=lJ K n+(if c0<n then 1 else 0)
 |0,_=>by simp[lJ]
 |n+1,hn=>by
  unfold lJ
  rw[qs v K c0 h0 hc n (by omega)]
  have e:dH (v::K) n=(if c0=n then [(v.1,lH v.2.2)] else [])++dH K n:=by
   unfold dH
   rw[List.filterMap_cons]
   by_cases e:c0=n
   ·rw[if_pos e,if_pos (by rw[hc,e])]
    rfl
   ·rw[if_neg e,if_neg (by rw[hc];exact fun he=>e (gQ h0 (by omega) he))]
    rfl
  rw[e,List.length_append]
  by_cases e1:c0=n
  ·rw[if_pos e1,if_neg (by omega),if_pos (by omega)]
   simp
   omega
  ·rw[if_neg e1]
   by_cases e2:c0<n
   ·rw[if_pos e2,if_pos (by omega)]
    simp
    omega
   ·rw[if_neg e2,if_neg (by omega)]
    simp
theorem rQ:∀ {K:List (Int×Wr)} ,(∀ v∈K,∃ c,c<60∧v.2.1=ax c)→lJ K 60=K.length
 |[],_=>by
  have:∀ n,lJ [] n=0:=fun n=>by
   induction n with
   |zero=>rfl
   |succ n ih=>
    unfold lJ
    rw[ih]
    rfl
  rw[this]
  rfl
 |v::K,h=>by
  obtain⟨c0,h0,hc⟩:=h v (by simp)
  rw[qs v K c0 h0 hc 60 (Nat.le_refl _),rQ (fun u hu=>h u (by simp[hu])),if_pos h0]
  rfl
theorem lV.len {X:ap}{E:bm}(h:lV X E):keptN X 60=E.kept.length:=by
 rw[←rQ h.cell]
 have:∀ n,n≤60→keptN X n=lJ E.kept n:=fun n=>by
  induction n with
  |zero=>intro _;rfl
  |succ n ih=>
   intro hn
   unfold keptN lJ
   rw[ih (by omega),h.hist n (by omega)]
 exact this 60 (Nat.le_refl _)
theorem tZ {h:gu}{t:Int}(h1:1≤(aN h t).1):aN h t∈h:=by
 unfold aN at h1 ⊢
 cases hf:h.reverse.find? (fun p=>decide (p.1≤t)) with
 |none=>rw[hf] at h1;simp at h1
 |some q=>exact List.mem_reverse.mp (List.mem_of_find?_eq_some hf)
theorem wz.uniq {h:gu}(hi:wz h){p q:Int×Option Int}(hp:p∈h)(hq:q∈h)(e:p.1=q.1):p=q:=by
 have ho:=hi.ord
 obtain⟨i,hi1,rfl⟩:=List.mem_iff_getElem.mp hp
 obtain⟨j,hj1,rfl⟩:=List.mem_iff_getElem.mp hq
 rw[List.pairwise_iff_getElem] at ho
 rcases Nat.lt_trichotomy i j with h|h|h
 ·have:=ho i j hi1 hj1 h
  omega
 ·subst h;rfl
 ·have:=ho j i hj1 hi1 h
  omega
theorem ic.ver {X:ap}{E:bm}{L:List (Nat×br)}(h:ic X E L){c:Nat}(hc:c<60){t:Nat}(ht:t≤E.com.length):aN (X.hist c) t=((dK E.com (ax c) t).2,lH (dK E.com (ax c) t).1):=
 Prod.ext (h.histS c hc t ht) (by rw[gp];exact h.hist c hc t ht)
theorem Bj {X:ap}{F:dN}{E:bm}(h:dm X F E){lo old:Int}(hh:pF X E lo)(hlo:lo≤old)(h0:0≤old)(hle:old≤E.com.length){c:Nat}(hc:c<60)(hi:wz (X.hist c)){v:Int×Wr}(hv:v∈E.kept)(hvc:v.2.1=ax c):gF E old v=jD (X.hist c) old (v.1,lH v.2.2):=by
 obtain⟨w1,w2,w3⟩:=h.kept.was v hv
 obtain⟨L,hs⟩:=h.sim
 have hin:(v.1,lH v.2.2)∈X.hist c:=by
  rw[h.kept.hist c hc]
  unfold dH
  rw[List.mem_filterMap]
  exact⟨v,hv,by rw[if_pos hvc]⟩
 unfold gF jD
 by_cases hneg:v.2.2<0
 ·rw[if_pos hneg]
  have:lH v.2.2=none:=by unfold lH;rw[if_pos hneg]
  rw[this]
  simp
 ·rw[if_neg hneg]
  have hsome:lH v.2.2=some v.2.2:=by unfold lH;rw[if_neg hneg]
  rw[hsome,hvc]
  rw[hvc] at w3
  by_cases hgt:old<v.1
  ·have e1:decide (old<v.1)=true:=by simpa using hgt
   simp only[e1,Bool.true_or]
   rw[List.any_eq_true]
   refine⟨v.1.toNat,by simp;omega,?_⟩
   rw[w3]
   simp
   omega
  ·have e1:decide (old<v.1)=false:=by simpa using hgt
   simp only[e1,Bool.false_or,Option.isSome_some,Bool.and_true]
   have hver:aN (dz E.com c) old=((dK E.com (ax c) old.toNat).2,lH (dK E.com (ax c) old.toNat).1):=by
    have:=hs.ver hc (t:=old.toNat) (by show old.toNat≤E.com.length;omega)
    have e:((old.toNat:Nat):Int)=old:=Int.toNat_of_nonneg h0
    rw[e] at this
    exact this
   have hse:=hh.seen c hc old hlo hle
   rw[hver] at hse
   rw[Bool.eq_iff_iff,List.any_eq_true,decide_eq_true_eq]
   constructor
   ·rintro⟨t,ht,hm⟩
    simp only[Bool.and_eq_true,decide_eq_true_eq,beq_iff_eq] at hm
    obtain⟨m1,m2⟩:=hm
    have hfl:=vr (com:=E.com) (c:=ax c) (t:=old.toNat) (u:=t) (by omega) (by rw[m2];omega)
    have hst:=(vu (com:=E.com) (c:=ax c) (t:=t) (by omega)).2
    rw[m2,w3] at hst
    have ho:dK E.com (ax c) old.toNat=(v.2.2,v.1):=by rw[hfl,←hst]
    rw[ho] at hse
    simp only[hsome] at hse
    have:=hse.2 (by rw[hse.1];rfl)
    rw[this]
   ·intro he
    have hm:aN (X.hist c) old∈X.hist c:=tZ (by omega)
    have hu:=hi.uniq hm hin he.symm
    rw[hu,hsome] at hse
    have h3:=hse.2 rfl
    refine⟨old.toNat,by simp;omega,?_⟩
    simp only[Bool.and_eq_true,decide_eq_true_eq,beq_iff_eq]
    refine⟨by omega,?_⟩
    have:=congrArg Prod.fst h3
    exact this.symm
theorem rz {K:List (Int×Wr)}{c:Nat}{p:Int×Wr→Bool}{q:Int×Option Int→Bool}(h:∀ v∈K,v.2.1=ax c→p v=q (v.1,lH v.2.2)):dH (K.filter p) c=(dH K c).filter q:=by
 induction K with
 |nil=>rfl
 |cons v K ih=>
  have ih':=ih (fun u hu=>h u (by simp[hu]))
  have e:∀ (v:Int×Wr) (K:List (Int×Wr)),dH (v::K) c=if v.2.1=ax c then (v.1,lH v.2.2)::dH K c else dH K c:=fun v K=>by
   unfold dH
   rw[List.filterMap_cons]
   by_cases e:v.2.1=ax c
   ·rw[if_pos e,if_pos e]
   ·rw[if_neg e,if_neg e]
  rw[e]
  by_cases hc:v.2.1=ax c
  ·rw[if_pos hc,List.filter_cons,List.filter_cons,←h v (by simp) hc]
   cases p v with
   |true=>simp only[if_true];rw[e,if_pos hc,ih']
   |false=>simpa using ih'
  ·rw[if_neg hc,List.filter_cons]
   cases p v with
   |true=>simp only[if_true];rw[e,if_neg hc,ih']
   |false=>simpa using ih'
theorem ic.swap {X X':ap}{E E':bm}{L:List (Nat×br)}(h:ic X E L)(h1:X'.src=X.src)(h2:X'.opened=X.opened)(h3:X'.ses=X.ses)(h4:X'.latest=X.latest)(h5:X'.last=X.last)(h6:∀ c,c<60→X'.hist c=X.hist c)(e1:E'.room=E.room)(e2:E'.com=E.com)(e3:E'.opn=E.opn)(e4:E'.opened=E.opened)(e5:keptN X' 60=E'.kept.length):ic X' E' L:=
 { opn:=by rw[e3];exact h.opn,places:=h.places,lt:=h.lt,ses:=by rw[h3];exact h.ses,free:=by rw[h3];exact h.free,nums:=h.nums,opened:=by rw[h2,e4];exact h.opened,openedPos:=by rw[e4];exact h.openedPos,numLe:=by rw[e4];exact h.numLe,snap:=by rw[e2];exact h.snap,latest:=by rw[h4,e2];exact h.latest,hist:=fun c hc t ht=>by rw[h6 c hc,e2];exact h.hist c hc t (by rw[←e2];exact ht),histS:=fun c hc t ht=>by rw[h6 c hc,e2];exact h.histS c hc t (by rw[←e2];exact ht),histLe:=fun c hc p hp=>by rw[e2];exact h.histLe c hc p (by rw[←h6 c hc];exact hp),last:=fun c hc=>by rw[h5,e2];exact h.last c hc,room:=by unfold ap.room;rw[h1,e1];exact h.room,kept:=e5 }
theorem l6 (X:ap)(com:List (List Wr)):keptN (X.full com) 60=rG com:=eF (X:=⟨((.bool false,0),ByteArray.empty,[]),0,fun _=>.zero,0,fun _=>0,dz com⟩) (Y:=X.full com) rfl 60
theorem dm.sweep {i:Nat}{X:ap}{F:dN}{E:bm}(h:dm X F E)(hg:eO i X):(ci X).1=(dX E).1∧dm (ci X).2 F (dX E).2:=by
 have hold:=h.old
 have hla:=h.latest
 obtain⟨a1,a2,a3⟩:=pQ X 8
 have h0:0≤cN X 8:=by
  rcases a3 with e|⟨k,hk,_,e⟩
  ·rw[e];exact hg.latest.1
  ·rw[e];exact (hg.snap k hk).1
 obtain⟨lo,hh⟩:=h.his
 have hlo:lo≤cN X 8:=by
  rcases a3 with e|⟨k,hk,hn,e⟩
  ·rw[e,hla];exact hh.le
  ·obtain⟨S,hS,_,e2⟩:=h.held hk hn
   rw[e,e2]
   exact hh.snap S hS
 have hle:cN X 8≤E.com.length:=by omega
 have hkept:lV (X.swept (cN X 8)) (E.swept (cN X 8)):=by
  refine⟨fun c hc=>?_,fun v hv=>h.kept.cell v (List.mem_filter.mp hv).1,fun v hv=>h.kept.was v (List.mem_filter.mp hv).1⟩
  show dx (X.hist c) (cN X 8)=dH (E.kept.filter (gF E (cN X 8))) c
  rw[rz (q:=jD (X.hist c) (cN X 8)) (fun v hv hvc=>Bj h hh hlo h0 hle hc (hg.inc c) hv hvc),←h.kept.hist c hc]
  rfl
 refine⟨?_,?_⟩
 ·unfold ci dX
  rw[h.kept.len,hkept.len,hold]
 ·show dm (X.swept (cN X 8)) F (E.swept (jF E))
  rw[←hold]
  refine⟨?_,⟨cN X 8,hle,fun S hS=>?_,fun c hc t h1 h2=>?_⟩,hkept,h.fire⟩
  ·obtain⟨L,hs⟩:=h.sim
   exact⟨L,hs⟩
  ·obtain⟨k,hk,e1,e2⟩:=h.place hS
   rw[←e2]
   exact a2 k hk (by rw[e1];have:=(h.pos hS).1;omega)
  ·exact (wA (hg.inc c) h1).trans (hh.seen c hc t (by omega) h2)
end Go.Proofs.YthlhbjnkohinmaaGreat
