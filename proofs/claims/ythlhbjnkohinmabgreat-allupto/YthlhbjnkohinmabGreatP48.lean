import Derived.Test.YthlhbjnkohinmabGreatP27
import Derived.Test.YthlhbjnkohinmabGreatP12
import Derived.Test.YthlhbjnkohinmabGreatP42
import Derived.Test.YthlhbjnkohinmabGreatP45
import Derived.Test.YthlhbjnkohinmabGreatP43
namespace Go.Proofs.YthlhbjnkohinmabGreat
set_option maxRecDepth 100000
set_option maxHeartbeats 8000000
open Go.RowKit
def br.nf (S:br):br:={ S with fired:=[] }
def dA (com:List (List Wr))(c:Nat):gw:=(List.range com.length).filterMap fun t=>(bR (com.getD t []) (ax c)).map fun v=>(((t:Nat):Int)+1,v)
theorem l6 (com:List (List Wr))(l:List Wr)(c:Nat):dA (com++[l]) c=dA com c++(match bR l (ax c) with|some v=>[((com.length:Int)+1,v)]|none=>[]):=by
 unfold dA
 rw[List.length_append,List.length_singleton,List.range_succ,List.filterMap_append]
 congr 1
 ·apply dK
  intro t ht
  rw[ni _ _ _ (by simpa using ht)]
 ·have:(com++[l]).getD com.length []=l:=by simp[List.getD]
  simp only[List.filterMap_cons,List.filterMap_nil,this]
  cases bR l (ax c) <;> rfl
theorem ll {com:List (List Wr)}{c:Nat}{p:Int×Option Int}(h:p∈dA com c):1≤p.1∧p.1≤com.length:=by
 unfold dA at h
 obtain⟨t,ht,hm⟩:=List.mem_filterMap.mp h
 obtain⟨v,_,rfl⟩:=Option.map_eq_some_iff.mp hm
 have:t<com.length:=by simpa using ht
 simp only
 omega
def ap.full (X:ap)(com:List (List Wr)):ap:={ X with hist:=dA com }
def sj (com:List (List Wr)):Nat:=keptN ⟨((.bool false,0),ByteArray.empty,[]),0,fun _=>.zero,0,fun _=>0,dA com⟩ 60
def bm.nf (E:bm):bm:={ E with opn:=E.opn.map br.nf,kept:=List.replicate (sj E.com) (0,ByteArray.empty,0) }
theorem bm.nf_len (E:bm):E.nf.opn.length=E.opn.length:=by simp[bm.nf]
theorem de.add {P:aK}{S:br}(h:de P S)(c:Nat)(hc:c<60)(p:Wr)(v:Option Int)(hp:p.1=ax c)(hv:lH p.2=v):de (P.put c v) (S.add p):=by
 refine⟨h.num,h.pos,h.snap,?_,?_,?_,h.fired,h.mks⟩
 ·intro c' hc'
  show cI P.wr c (some v) c'=bR (S.wr++[p]) (ax c')
  rw[lX]
  by_cases e:c'=c
  ·subst e
   rw[aW,if_pos hp,hv]
  ·rw[bD _ _ _ e,if_neg (by rw[hp];exact fun he=>e (gS hc' hc he.symm))]
   exact h.wr c' hc'
 ·show P.made+1=((S.wr++[p]).length:Nat)
  rw[h.made]
  simp
 ·intro c' hc' k hk
  show cI P.tm c (P.snap+(P.made+1)) c'=S.snap+((k:Int)+1)
  have hk':be (ax c') (S.wr++[p])=some k:=hk
  rw[ka] at hk'
  by_cases e:c'=c
  ·subst e
   rw[if_pos hp] at hk'
   cases hk'
   rw[aW,h.made,h.snap]
  ·rw[if_neg (by rw[hp];exact fun he=>e (gS hc' hc he.symm))] at hk'
   rw[bD _ _ _ e]
   exact h.tm c' hc' k hk'
theorem B5 {x:Nat×Option Int}(h:∀ v,x.2=some v→0≤v∧v≤9):lH (iw x).2=x.2:=by
 obtain⟨c,v⟩:=x
 cases v with
 |none=>rfl
 |some v=>
  have:=h v rfl
  show lH v=some v
  unfold lH
  rw[if_neg (by omega)]
theorem de.puts:∀ (ws:List (Nat×Option Int)){P:aK}{S:br} ,de P S→(∀ x∈ws,x.1<60∧∀ v,x.2=some v→0≤v∧v≤9)→de (puts P ws) { S with wr:=S.wr++ws.map iw }
 |[],P,S,h,_=>by simpa [Go.Proofs.YthlhbjnkohinmabGreat.puts] using h
 |x::ws,P,S,h,hw=>by
  have h1:=hw x (by simp)
  have h2:=de.puts ws (h.add x.1 h1.1 (iw x) x.2 rfl (B5 h1.2)) (fun y hy=>hw y (by simp[hy]))
  have e:({ S.add (iw x) with wr:=(S.add (iw x)).wr++ws.map iw }:br)={ S with wr:=S.wr++(x::ws).map iw }:=by simp[br.add]
  rw[e] at h2
  exact h2
theorem id.set {X:ap}{E:bm}{L:List (Nat×br)}(h:id X E L){i:Nat}(hi:i<L.length){P':aK}{S':br}(hs:de P' S')(hnum:S'.num=L[i].2.num)(hsn:S'.snap=L[i].2.snap):
  ∃ L',id (X.setSes L[i].1 P') (pD E i S') L':=by
 refine⟨L.set i (L[i].1,S'),?_⟩
 have hm1:(L.set i (L[i].1,S')).map (·.1)=L.map (·.1):=by
  apply List.ext_getElem (by simp)
  intro j h1 h2
  simp[List.getElem_set]
  intro e
  subst e
  rfl
 have hm2:(L.set i (L[i].1,S')).map (·.2.num)=L.map (·.2.num):=by
  apply List.ext_getElem (by simp)
  intro j h1 h2
  simp[List.getElem_set]
  intro e
  subst e
  exact hnum
 have hmem:∀ q∈L.set i (L[i].1,S'),(q∈L∧q.1≠L[i].1)∨q=(L[i].1,S'):=by
  intro q hq
  obtain⟨j,hj,rfl⟩:=List.mem_iff_getElem.mp hq
  have hj2:j<L.length:=by simpa using hj
  rw[List.getElem_set]
  by_cases e:i=j
  ·subst e;right;simp
  ·left
   rw[if_neg e]
   refine⟨List.getElem_mem hj2,?_⟩
   intro he
   have hn:=h.places
   rw[List.nodup_iff_pairwise_ne,List.pairwise_iff_getElem] at hn
   rcases Nat.lt_or_gt_of_ne e with hlt|hlt
   ·exact hn i j (by simpa using hi) (by simpa using hj2) hlt (by simpa using he.symm)
   ·exact hn j i (by simpa using hj2) (by simpa using hi) hlt (by simpa using he)
 refine { opn:=?_,places:=by rw[hm1];exact h.places,lt:=?_,ses:=?_,free:=?_,nums:=by rw[hm2];exact h.nums,opened:=h.opened,openedPos:=h.openedPos,numLe:=?_,snap:=?_,latest:=h.latest,hist:=h.hist,histS:=h.histS,histLe:=h.histLe,last:=h.last,room:=h.room,kept:=(eH rfl 60).trans h.kept }
 ·show E.opn.set i S'=_
  rw[h.opn,List.map_set]
 ·intro q hq
  rcases hmem q hq with ⟨h1,_⟩|rfl
  ·exact h.lt q h1
  ·exact h.lt L[i] (List.getElem_mem hi)
 ·intro q hq
  rcases hmem q hq with ⟨h1,h2⟩|rfl
  ·show de (cI X.ses _ _ q.1) q.2
   rw[bD _ _ _ h2]
   exact h.ses q h1
  ·show de (cI X.ses _ _ L[i].1) S'
   rw[aW]
   exact hs
 ·intro j hj hjL
  show (cI X.ses _ _ j).num=0
  by_cases e:j=L[i].1
  ·subst e
   have:(L[i].1,S')∈L.set i (L[i].1,S'):=List.mem_iff_getElem.mpr ⟨i,by simpa using hi,by simp⟩
   exact absurd rfl (hjL (L[i].1,S') this)
  ·rw[bD _ _ _ e]
   apply h.free j hj
   intro q hq he
   have:q.1∈(L.set i (L[i].1,S')).map (·.1):=by rw[hm1];exact List.mem_map.mpr ⟨q,hq,rfl⟩
   obtain⟨q',hq',e'⟩:=List.mem_map.mp this
   exact hjL q' hq' (e'.trans he)
 ·intro q hq
  rcases hmem q hq with ⟨h1,_⟩|rfl
  ·exact h.numLe q h1
  ·show S'.num≤_
   rw[hnum]
   exact h.numLe L[i] (List.getElem_mem hi)
 ·intro q hq
  rcases hmem q hq with ⟨h1,_⟩|rfl
  ·exact h.snap q h1
  ·show 0≤S'.snap∧S'.snap≤_
   rw[hsn]
   exact h.snap L[i] (List.getElem_mem hi)
theorem wT (X:ap)(com:List (List Wr)):a8 (X.full com)=((a8 X).1,(a8 X).2.full com):=by
 have e:bd (X.full com) 0=bd X 0:=rfl
 unfold a8
 rw[e]
 cases bd X 0 <;> rfl
theorem zH (X:ap)(com:List (List Wr))(n:Int)(s:ByteArray):cj (X.full com) n s=((cj X n s).1,(cj X n s).2.full com):=by
 have e:aM (X.full com) n=aM X n:=rfl
 unfold cj
 rw[e]
 cases aM X n with
 |none=>rfl
 |some k=>cases eU s <;> rfl
theorem vq (X:ap)(com:List (List Wr))(n:Int)(s:ByteArray):aX (X.full com) n s=((aX X n s).1,(aX X n s).2.full com):=by
 have e:aM (X.full com) n=aM X n:=rfl
 unfold aX
 rw[e]
 cases aM X n with
 |none=>rfl
 |some k=>cases eE s <;> rfl
theorem wd (X:ap)(com:List (List Wr))(n:Int):aY (X.full com) n=((aY X n).1,(aY X n).2.full com):=by
 have e:aM (X.full com) n=aM X n:=rfl
 unfold aY
 rw[e]
 cases aM X n <;> rfl
theorem lz (l:List br)(n:Int):eL (l.map br.nf) n=eL l n:=by
 unfold eL
 rw[List.findIdx?_map]
 rfl
theorem qC (l:List br)(n:Int):dk (l.map br.nf) n=(dk l n).map br.nf:=by
 unfold dk
 rw[List.find?_map]
 rfl
theorem yP (E:bm)(k:Nat)(p:Wr):(jd E k p).nf=jd E.nf k p:=by
 unfold jd bm.nf
 congr 1
 apply List.ext_getElem (by simp)
 intro j h1 h2
 simp only[List.getElem_map,List.getElem_modify]
 split <;> rfl
theorem yA (E:bm)(n:Int):(dF E n).nf=dF E.nf n:=by
 unfold dF bm.nf
 congr 1
 rw[List.filter_map]
 rfl
theorem Eg (E:bm)(k:Nat)(S:br):(pD E k S).nf=pD E.nf k S.nf:=by
 unfold pD bm.nf
 congr 1
 rw[List.map_set]
theorem Bn (E:bm):cF E.nf=((cF E).1,(cF E).2.nf):=by
 unfold cF
 rw[E.nf_len]
 split
 ·rfl
 ·have:({ E with opened:=E.opened+1,opn:=E.opn++[⟨E.opened+1,E.com.length,[],[]⟩] }:bm).nf={ E.nf with opened:=E.nf.opened+1,opn:=E.nf.opn++[⟨E.nf.opened+1,E.nf.com.length,[],[]⟩] }:=by
   simp[bm.nf,br.nf]
  rw[this]
  rfl
theorem Ex (E:bm)(n:Int)(s:ByteArray):fF E.nf n s=((fF E n s).1,(fF E n s).2.nf):=by
 have e:eL E.nf.opn n=eL E.opn n:=lz _ _
 unfold fF
 rw[e]
 cases eL E.opn n with
 |none=>rfl
 |some k=>
  cases eU s with
  |false=>rfl
  |true=>exact Prod.ext rfl (yP E k _).symm
theorem Bx (E:bm)(n:Int)(s:ByteArray):cT E.nf n s=((cT E n s).1,(cT E n s).2.nf):=by
 have e:eL E.nf.opn n=eL E.opn n:=lz _ _
 unfold cT
 rw[e]
 cases eL E.opn n with
 |none=>rfl
 |some k=>
  cases eE s with
  |false=>rfl
  |true=>exact Prod.ext rfl (yP E k _).symm
theorem AD (E:bm)(n:Int):cR E.nf n=((cR E n).1,(cR E n).2.nf):=by
 have e:eL E.nf.opn n=eL E.opn n:=lz _ _
 unfold cR
 rw[e]
 cases eL E.opn n with
 |none=>rfl
 |some k=>exact Prod.ext rfl (yA E n).symm
def dG (K:List (Int×Wr))(c:Nat):gw:=K.filterMap fun v=>if v.2.1=ax c then some (v.1,lH v.2.2) else none
theorem pZ (K K':List (Int×Wr))(c:Nat):dG (K++K') c=dG K c++dG K' c:=by unfold dG;rw[List.filterMap_append]
structure px (X:ap)(E:bm)(lo:Int):Prop where
 le:lo≤E.com.length
 snap:∀ S∈E.opn,lo≤S.snap
 seen:∀ c,c<60→∀ t:Int,lo≤t→t≤E.com.length→e8 (aN (X.hist c) t) (aN (dA E.com c) t)
structure ml (X:ap)(E:bm):Prop where
 hist:∀ c,c<60→X.hist c=dG E.kept c
 cell:∀ v∈E.kept,∃ c,c<60∧v.2.1=ax c
 was:∀ v∈E.kept,1≤v.1∧v.1≤E.com.length∧dM E.com v.2.1 v.1.toNat=(v.2.2,v.1)
def fS (com:List (List Wr))(sn:Int):Nat→Int×Option Int:=fun c=>aN (dA com c) sn
def kD (s:ByteArray)(R:List ay)(com:List (List Wr))(P:aK)(fm:Nat→Option Int)(S:br):Prop:=∃ Rs,S.fired=Rs.map (nF S.snap)∧fm=s6 Rs∧mE P (fS com S.snap)∧i8 s R P (fS com S.snap) Rs
def mt (X:ap)(F:dN)(E:bm):Prop:=∀ S∈E.opn,∀ k,k<8→(X.ses k).num=S.num→kD X.src.2.1 X.src.2.2 E.com (X.ses k) (F k) S
structure dm (X:ap)(F:dN)(E:bm):Prop where
 sim:∃ L,id (X.full E.com) E.nf L
 his:∃ lo,px X E lo
 kept:ml X E
 fire:mt X F E
theorem dm.pos {X:ap}{F:dN}{E:bm}(h:dm X F E){S:br}(hS:S∈E.opn):1≤S.num∧S.num≤E.opened∧0≤S.snap∧S.snap≤E.com.length:=by
 obtain⟨L,hs⟩:=h.sim
 have hm:S.nf∈E.nf.opn:=List.mem_map.mpr ⟨S,hS,rfl⟩
 rw[hs.opn] at hm
 obtain⟨q,hq,e⟩:=List.mem_map.mp hm
 have h1:=(hs.ses q hq).pos
 have h2:=hs.numLe q hq
 have h3:=hs.snap q hq
 rw[e] at h1 h2 h3
 exact⟨h1,h2,h3⟩
theorem dm.opened {X:ap}{F:dN}{E:bm}(h:dm X F E):X.opened=E.opened:=by
 obtain⟨L,hs⟩:=h.sim
 exact hs.opened
theorem dm.latest {X:ap}{F:dN}{E:bm}(h:dm X F E):X.latest=E.com.length:=by
 obtain⟨L,hs⟩:=h.sim
 exact hs.latest
theorem dm.room {X:ap}{F:dN}{E:bm}(h:dm X F E):X.room=E.room:=by
 obtain⟨L,hs⟩:=h.sim
 exact hs.room
theorem dm.len {X:ap}{F:dN}{E:bm}(h:dm X F E):E.opn.length≤8:=by
 obtain⟨L,hs⟩:=h.sim
 have:=hs.len
 rw[E.nf_len] at this
 exact this
theorem dm.find {X:ap}{F:dN}{E:bm}(h:dm X F E)(n:Int):
  (aM X n=none∧eL E.opn n=none∧dk E.opn n=none)∨∃ (i k:Nat) (hi:i<E.opn.length),k<8∧E.opn[i].num=n∧(X.ses k).num=n∧aM X n=some k∧eL E.opn n=some i∧dk E.opn n=some E.opn[i]∧de (X.ses k) E.opn[i].nf∧clash X (X.ses k)=d9 E E.opn[i]:=by
 obtain⟨L,hs⟩:=h.sim
 rcases hs.find n with ⟨h1,h2,h3⟩|⟨i,hi,hi2,e,hn,h1,h2,h3⟩
 ·refine .inl ⟨h1,?_,?_⟩
  ·have:eL E.nf.opn n=eL E.opn n:=lz _ _
   rw[←this];exact h2
  ·have:dk E.nf.opn n=(dk E.opn n).map br.nf:=qC _ _
   rw[this] at h3
   simpa using h3
 ·have hi3:i<E.opn.length:=by rw[←E.nf_len];exact hi2
  have e2:E.nf.opn[i]=E.opn[i].nf:=by simp[bm.nf]
  have e3:L[i].2=E.opn[i].nf:=by rw[←e,e2]
  have e4:eL E.opn n=some i:=by
   have:eL E.nf.opn n=eL E.opn n:=lz _ _
   rw[←this];exact h2
  obtain⟨_,g1,g2⟩:=iN e4
  have hs1:=hs.ses _ (List.getElem_mem hi)
  refine .inr ⟨i,L[i].1,hi3,hs.lt _ (List.getElem_mem hi),g1,?_,h1,e4,fZ hi3 g1 g2,?_,?_⟩
  ·have:=hs1.num
   rw[hn] at this
   exact this
  ·rw[←e3]
   exact hs1
  ·have hc:=hs.clash (List.getElem_mem hi)
   rw[e3] at hc
   exact hc
theorem px.same {X X':ap}{E E':bm}{lo:Int}(h:px X E lo)(hh:X'.hist=X.hist)(hc:E'.com=E.com)(ho:∀ S'∈E'.opn,S'.snap=E.com.length∨∃ S∈E.opn,S'.snap=S.snap):px X' E' lo:=by
 refine⟨by rw[hc];exact h.le,fun S' hS'=>?_,fun c hl t h1 h2=>?_⟩
 ·rcases ho S' hS' with e|⟨S,hS,e⟩
  ·rw[e];exact h.le
  ·rw[e];exact h.snap S hS
 ·rw[hh,hc]
  rw[hc] at h2
  exact h.seen c hl t h1 h2
theorem ml.same {X X':ap}{E E':bm}(h:ml X E)(hh:X'.hist=X.hist)(hc:E'.com=E.com)(hk:E'.kept=E.kept):ml X' E':=
 ⟨fun c hl=>by rw[hh,hk];exact h.hist c hl,fun v hv=>h.cell v (by rw[←hk];exact hv),fun v hv=>by rw[hc];exact h.was v (by rw[←hk];exact hv)⟩
theorem kD.put {s:ByteArray}{R:List ay}{com:List (List Wr)}{P:aK}{fm:Nat→Option Int}{S:br}(h:kD s R com P fm S)(c:Nat)(v:Option Int):kD s R com (P.put c v) fm S:=by
 obtain⟨Rs,h1,h2,h3,h4⟩:=h
 exact⟨Rs,h1,h2,h3.put c v,h4.put c v⟩
theorem kD.ses {s:ByteArray}{R:List ay}{com:List (List Wr)}{P:aK}{fm:Nat→Option Int}{S S':br}(h:kD s R com P fm S)(h1:S'.fired=S.fired)(h2:S'.snap=S.snap):kD s R com P fm S':=by
 obtain⟨Rs,k1,k2,k3,k4⟩:=h
 exact⟨Rs,by rw[h1,h2];exact k1,k2,by rw[h2];exact k3,by rw[h2];exact k4⟩
theorem qp {E:bm}{i:Nat}{p:Wr}{S':br}(h:S'∈(jd E i p).opn):∃ S∈E.opn,S'.num=S.num∧S'.snap=S.snap∧S'.fired=S.fired:=by
 obtain⟨j,hj,rfl⟩:=List.mem_iff_getElem.mp h
 have hj2:j<E.opn.length:=by simpa [jd] using hj
 refine⟨E.opn[j],List.getElem_mem hj2,?_⟩
 simp only[jd,List.getElem_modify]
 split <;> exact⟨rfl,rfl,rfl⟩
theorem mt.write {X:ap}{F:dN}{E:bm}(h:mt X F E)(k:Nat)(c:Nat)(v:Option Int)(i:Nat)(p:Wr):mt (X.setSes k ((X.ses k).put c v)) (cy X (X.setSes k ((X.ses k).put c v)) F) (jd E i p):=by
 intro S' hS' j hj hn
 obtain⟨S,hS,e1,e2,e3⟩:=qp hS'
 have hnum:((X.setSes k ((X.ses k).put c v)).ses j).num=(X.ses j).num:=by
  show (cI X.ses k _ j).num=_
  by_cases e:j=k
  ·subst e;rw[aW];rfl
  ·rw[bD _ _ _ e]
 have h0:=h S hS j hj (by rw[←hnum,hn,e1])
 have hF:cy X (X.setSes k ((X.ses k).put c v)) F j=F j:=by unfold cy;rw[if_pos hnum]
 rw[hF]
 refine kD.ses (S:=S) ?_ e3 e2
 show kD X.src.2.1 X.src.2.2 E.com (cI X.ses k ((X.ses k).put c v) j) (F j) S
 by_cases e:j=k
 ·subst e;rw[aW];exact h0.put c v
 ·rw[bD _ _ _ e];exact h0
theorem fW (X:ap)(F:dN):cy X X F=F:=by
 funext k
 unfold cy
 rw[if_pos rfl]
theorem dm.open {X:ap}{F:dN}{E:bm}(h:dm X F E):(a8 X).1=(cF E).1∧dm (a8 X).2 (cy X (a8 X).2 F) (cF E).2:=by
 have hpos:=fun S (hS:S∈E.opn)=>h.pos hS
 have hop:=h.opened
 have hla:=h.latest
 obtain⟨⟨L,hs⟩,⟨lo,hh⟩,hk,hf⟩:=h
 obtain⟨h1,L',h2⟩:=hs.open
 have hop0:0≤E.opened:=hs.openedPos
 rw[wT,Bn] at h1 h2
 have hcom:(cF E).2.com=E.com:=by unfold cF;split <;> rfl
 have hkept:(cF E).2.kept=E.kept:=by unfold cF;split <;> rfl
 have hhist:(a8 X).2.hist=X.hist:=by unfold a8;cases bd X 0 <;> rfl
 have hopn:∀ S'∈(cF E).2.opn,S'∈E.opn∨(S'=⟨E.opened+1,E.com.length,[],[]⟩∧E.opn.length<8):=fun S' hS'=>by
  unfold cF at hS'
  split at hS'
  ·exact .inl hS'
  ·rename_i h8
   rcases List.mem_append.mp hS' with h|h
   ·exact .inl h
   ·rw[List.mem_singleton] at h
    exact .inr ⟨h,by omega⟩
 refine⟨h1,⟨L',by rw[hcom];exact h2⟩,⟨lo,hh.same hhist hcom (fun S' hS'=>?_)⟩,hk.same hhist hcom hkept,fun S' hS' j hj hn=>?_⟩
 ·rcases hopn S' hS' with e|⟨e,_⟩
  ·exact .inr ⟨S',e,rfl⟩
  ·left
   rw[e]
 ·have hsrc:(a8 X).2.src=X.src:=by unfold a8;cases bd X 0 <;> rfl
  rw[hsrc,hcom]
  have hses:(a8 X).2=X∨∃ k,(X.ses k).num=0∧(a8 X).2.ses=cI X.ses k (.new (X.opened+1) X.latest):=by
   unfold a8
   cases hz:bd X 0 with
   |none=>exact .inl rfl
   |some k=>exact .inr ⟨k,(bu hz).2,rfl⟩
  rcases hses with e0|⟨k,hk0,e0⟩
  ·rw[e0] at hn
   rcases hopn S' hS' with e|⟨e,_⟩
   ·have:=hf S' e j hj hn
    rw[e0,fW]
    exact this
   ·exfalso
    by_cases hfull:(X.ses j).num=E.opened+1
    ·have h3:=hs.free j hj
     by_cases hex:∀ q∈L,q.1≠j
     ·have:=h3 hex
      have h4:(X.ses j).num=0:=this
      omega
     ·simp only[Classical.not_forall] at hex
      obtain⟨q,hq,hne⟩:=hex
      have hne':q.1=j:=Classical.byContradiction hne
      have h5:=(hs.ses q hq).num
      have h6:=hs.numLe q hq
      rw[hne'] at h5
      have h7:(X.ses j).num=q.2.num:=h5
      have h8:q.2.num≤E.opened:=h6
      omega
    ·exact hfull (by rw[hn,e])
  ·by_cases ej:j=k
   ·have hnew:(a8 X).2.ses j=.new (X.opened+1) X.latest:=by rw[e0,ej,aW]
    have hnum:((a8 X).2.ses j).num=X.opened+1:=by rw[hnew];rfl
    have hF:cy X (a8 X).2 F j=vZ:=by
     unfold cy
     rw[if_neg]
     rw[hnum,ej,hk0]
     omega
    rcases hopn S' hS' with e|⟨e,_⟩
    ·exfalso
     have:=hpos S' e
     omega
    ·rw[hF,hnew,e]
     refine⟨[],rfl,rfl,⟨?_,Int.le_refl 0,fun c v hv=>(by cases hv),fun c v hv=>?_⟩,⟨fun r hr=>(by cases hr),fun r hr=>(by cases hr),fun r hr=>(by cases hr),fun r hr=>(by cases hr),List.Pairwise.nil⟩⟩
     ·show 0≤X.latest
      rw[hla]
      omega
     ·have hm:=nS hv
      have h1:1≤(aN (dA E.com c) E.com.length).1∧(aN (dA E.com c) E.com.length).1≤E.com.length:=ll hm
      show 0<(aN (dA E.com c) E.com.length).1∧(aN (dA E.com c) E.com.length).1≤X.latest
      rw[hla]
      exact⟨by omega,h1.2⟩
   ·have hold:(a8 X).2.ses j=X.ses j:=by rw[e0,bD _ _ _ ej]
    have hF:cy X (a8 X).2 F j=F j:=by
     unfold cy
     rw[if_pos (by rw[hold])]
    rw[hold] at hn
    rw[hF,hold]
    rcases hopn S' hS' with e|⟨e,_⟩
    ·exact hf S' e j hj hn
    ·exfalso
     rw[e] at hn
     have h3:=hs.free j hj
     by_cases hex:∀ q∈L,q.1≠j
     ·have:=h3 hex
      have h4:(X.ses j).num=0:=this
      have h5:(X.ses j).num=E.opened+1:=hn
      have h6:0≤E.opened:=hop0
      omega
     ·simp only[Classical.not_forall] at hex
      obtain⟨q,hq,hne⟩:=hex
      have hne':q.1=j:=Classical.byContradiction hne
      have h5:=(hs.ses q hq).num
      have h6:=hs.numLe q hq
      rw[hne'] at h5
      have h7:(X.ses j).num=q.2.num:=h5
      have h8:q.2.num≤E.opened:=h6
      have h9:(X.ses j).num=E.opened+1:=hn
      omega
theorem dm.put {X:ap}{F:dN}{E:bm}(h:dm X F E)(n:Int)(s:ByteArray):(cj X n s).1=(fF E n s).1∧dm (cj X n s).2 (cy X (cj X n s).2 F) (fF E n s).2:=by
 have hfd:=h.find n
 have h0:=h
 obtain⟨⟨L,hs⟩,⟨lo,hh⟩,hk,hf⟩:=h
 obtain⟨h1,L',h2⟩:=hs.put n s
 rw[zH,Ex] at h1 h2
 refine⟨h1,?_⟩
 rcases hfd with ⟨e1,e2,_⟩|⟨i,k,hi,_,_,_,e1,e2,_⟩
 ·have a1:(cj X n s).2=X:=by unfold cj;rw[e1]
  have a2:(fF E n s).2=E:=by unfold fF;rw[e2]
  rw[a1,a2,fW]
  exact h0
 ·cases hb:eU s with
  |false=>
   have a1:(cj X n s).2=X:=by unfold cj;rw[e1,hb];rfl
   have a2:(fF E n s).2=E:=by unfold fF;rw[e2,hb];rfl
   rw[a1,a2,fW]
   exact h0
  |true=>
   have a1:(cj X n s).2=X.setSes k ((X.ses k).put (dO s) (some (bt s 2 - 48))):=by unfold cj;rw[e1,hb];rfl
   have a2:(fF E n s).2=jd E i (s.extract 0 2,bt s 2 - 48):=by unfold fF;rw[e2,hb];rfl
   rw[a1,a2] at h2
   rw[a1,a2]
   refine⟨⟨L',h2⟩,⟨lo,hh.same rfl rfl (fun S' hS'=>?_)⟩,hk.same rfl rfl rfl,hf.write k _ _ i _⟩
   obtain⟨S,hS,_,e,_⟩:=qp hS'
   exact .inr ⟨S,hS,e⟩
theorem dm.clear {X:ap}{F:dN}{E:bm}(h:dm X F E)(n:Int)(s:ByteArray):(aX X n s).1=(cT E n s).1∧dm (aX X n s).2 (cy X (aX X n s).2 F) (cT E n s).2:=by
 have hfd:=h.find n
 have h0:=h
 obtain⟨⟨L,hs⟩,⟨lo,hh⟩,hk,hf⟩:=h
 obtain⟨h1,L',h2⟩:=hs.clear n s
 rw[vq,Bx] at h1 h2
 refine⟨h1,?_⟩
 rcases hfd with ⟨e1,e2,_⟩|⟨i,k,hi,_,_,_,e1,e2,_⟩
 ·have a1:(aX X n s).2=X:=by unfold aX;rw[e1]
  have a2:(cT E n s).2=E:=by unfold cT;rw[e2]
  rw[a1,a2,fW]
  exact h0
 ·cases hb:eE s with
  |false=>
   have a1:(aX X n s).2=X:=by unfold aX;rw[e1,hb];rfl
   have a2:(cT E n s).2=E:=by unfold cT;rw[e2,hb];rfl
   rw[a1,a2,fW]
   exact h0
  |true=>
   have a1:(aX X n s).2=X.setSes k ((X.ses k).put (dO s) none):=by unfold aX;rw[e1,hb];rfl
   have a2:(cT E n s).2=jd E i (s,-1):=by unfold cT;rw[e2,hb];rfl
   rw[a1,a2] at h2
   rw[a1,a2]
   refine⟨⟨L',h2⟩,⟨lo,hh.same rfl rfl (fun S' hS'=>?_)⟩,hk.same rfl rfl rfl,hf.write k _ _ i _⟩
   obtain⟨S,hS,_,e,_⟩:=qp hS'
   exact .inr ⟨S,hS,e⟩
theorem mt.drop {X:ap}{F:dN}{E:bm}(h:mt X F E)(hp:∀ S∈E.opn,1≤S.num)(k:Nat)(n:Int):mt (X.setSes k .zero) (cy X (X.setSes k .zero) F) (dF E n):=by
 intro S hS j hj hn
 have hS0:S∈E.opn:=(List.mem_filter.mp hS).1
 by_cases e:j=k
 ·exfalso
  have h1:(X.setSes k .zero).ses j=.zero:=by rw[e];exact aW _ _ _
  rw[h1] at hn
  have h2:(0:Int)=S.num:=hn
  have:=hp S hS0
  omega
 ·have h1:(X.setSes k .zero).ses j=X.ses j:=bD _ _ _ e
  have hF:cy X (X.setSes k .zero) F j=F j:=by unfold cy;rw[if_pos (by rw[h1])]
  rw[h1] at hn
  rw[hF,h1]
  exact h S hS0 j hj hn
theorem jV {E:bm}{n:Int}{S:br}(h:S∈(dF E n).opn):S∈E.opn:=(List.mem_filter.mp h).1
theorem dm.abort {X:ap}{F:dN}{E:bm}(h:dm X F E)(n:Int):(aY X n).1=(cR E n).1∧dm (aY X n).2 (cy X (aY X n).2 F) (cR E n).2:=by
 have hfd:=h.find n
 have hpos:=fun S (hS:S∈E.opn)=>h.pos hS
 have h0:=h
 obtain⟨⟨L,hs⟩,⟨lo,hh⟩,hk,hf⟩:=h
 obtain⟨h1,L',h2⟩:=hs.abort n
 rw[wd,AD] at h1 h2
 refine⟨h1,?_⟩
 rcases hfd with ⟨e1,e2,_⟩|⟨i,k,hi,_,_,_,e1,e2,_⟩
 ·have a1:(aY X n).2=X:=by unfold aY;rw[e1]
  have a2:(cR E n).2=E:=by unfold cR;rw[e2]
  rw[a1,a2,fW]
  exact h0
 ·have a1:(aY X n).2=X.setSes k .zero:=by unfold aY;rw[e1]
  have a2:(cR E n).2=dF E n:=by unfold cR;rw[e2]
  rw[a1,a2] at h2
  rw[a1,a2]
  exact⟨⟨L',h2⟩,⟨lo,hh.same rfl rfl (fun S' hS'=>.inr ⟨S',jV hS',rfl⟩)⟩,hk.same rfl rfl rfl,hf.drop (fun S hS=>(hpos S hS).1) k n⟩
theorem px.at {X:ap}{E:bm}{lo:Int}(h:px X E lo){S:br}(hS:S∈E.opn)(hl:S.snap≤E.com.length){c:Nat}(hc:c<60):e8 (aN (X.hist c) S.snap) (fS E.com S.snap c):=h.seen c hc _ (h.snap S hS) hl
theorem dm.view {X:ap}{F:dN}{E:bm}(h:dm X F E)(n:Int):e9 X n=match dk E.opn n with|some S=>(ch (cH E.com S 60),0)|none=>(ByteArray.empty,6):=by
 have hfd:=h.find n
 have hpos:=fun S (hS:S∈E.opn)=>h.pos hS
 obtain⟨⟨L,hs⟩,⟨lo,hh⟩,hk,hf⟩:=h
 have hv:=hs.view n
 rcases hfd with ⟨e1,_,e2⟩|⟨i,k,hi,_,hn,hkn,e1,_,e2,hss,_⟩
 ·rw[e2]
  unfold e9
  rw[e1]
 ·have e3:dk E.nf.opn n=some E.opn[i].nf:=by
   have:dk E.nf.opn n=(dk E.opn n).map br.nf:=qC _ _
   rw[this,e2];rfl
  have e4:aM (X.full E.com) n=some k:=e1
  rw[e3] at hv
  rw[e2]
  unfold e9 at hv ⊢
  rw[e4] at hv
  rw[e1]
  have hS:=List.getElem_mem hi
  have e5:oP X k=oP (X.full E.com) k:=by
   unfold oP
   congr 1
   apply dK
   intro c hc
   have hc60:c<60:=by simpa using hc
   have e6:jk X k c=jk (X.full E.com) k c:=by
    unfold jk
    show (match (X.ses k).wr c with|some v=>v|none=>iX (X.hist c) (X.ses k).snap)=match (X.ses k).wr c with|some v=>v|none=>iX (dA E.com c) (X.ses k).snap
    cases (X.ses k).wr c with
    |some v=>rfl
    |none=>
     have hsn:(X.ses k).snap=E.opn[i].snap:=hss.snap
     rw[hsn]
     have:=(hh.at hS (hpos _ hS).2.2.2 hc60).1
     rw[gt] at this
     unfold fS at this
     rw[gt] at this
     exact this
   rw[e6]
  simp only[] at hv ⊢
  rw[e5]
  exact hv
theorem ul {com:List (List Wr)}{c:ByteArray}:∀ {t:Nat},1≤(dM com c t).2→(dM com c t).2≤t∧dM com c (dM com c t).2.toNat=dM com c t
 |0,h=>by simp[dM] at h
 |t+1,h=>by
  cases hl:be c (com.getD t []) with
  |some k=>
   have e:dM com c (t+1)=(((com.getD t []).getD k (ByteArray.empty,0)).2,(t:Int)+1):=by rw[dM,hl]
   rw[e]
   refine⟨by simp,?_⟩
   have:((t:Int)+1).toNat=t+1:=by omega
   simp only[this]
   exact e
  |none=>
   have e:dM com c (t+1)=dM com c t:=by rw[dM,hl]
   rw[e] at h ⊢
   obtain⟨h1,h2⟩:=ul h
   exact⟨by omega,h2⟩
theorem uq {com:List (List Wr)}{c:ByteArray}{t:Nat}:∀ {u:Nat},t≤u→(dM com c u).2≤t→dM com c t=dM com c u
 |0,h,_=>by
  have:t=0:=by omega
  subst this
  rfl
 |u+1,h,hs=>by
  by_cases e:t=u+1
  ·subst e;rfl
  ·cases hl:be c (com.getD u []) with
   |some k=>
    have e:dM com c (u+1)=(((com.getD u []).getD k (ByteArray.empty,0)).2,(u:Int)+1):=by rw[dM,hl]
    rw[e] at hs
    simp only at hs
    omega
   |none=>
    have e:dM com c (u+1)=dM com c u:=by rw[dM,hl]
    rw[e] at hs ⊢
    exact uq (by omega) hs
theorem sC:∀ (l:List br)(z:Int) ,l.foldl (fun o S=>if S.snap<o then S.snap else o) z≤z∧(∀ S∈l,l.foldl (fun o S=>if S.snap<o then S.snap else o) z≤S.snap)∧(l.foldl (fun o S=>if S.snap<o then S.snap else o) z=z∨∃ S∈l,l.foldl (fun o S=>if S.snap<o then S.snap else o) z=S.snap)
 |[],z=>⟨Int.le_refl z,fun S hS=>(by cases hS),.inl rfl⟩
 |S::l,z=>by
  rw[List.foldl_cons]
  obtain⟨h1,h2,h3⟩:=sC l (if S.snap<z then S.snap else z)
  have h4:(if S.snap<z then S.snap else z)≤z∧(if S.snap<z then S.snap else z)≤S.snap:=by split <;> omega
  refine⟨by omega,fun T hT=>?_,?_⟩
  ·rcases List.mem_cons.mp hT with e|hT
   ·rw[e];omega
   ·exact h2 T hT
  ·rcases h3 with h3|⟨T,hT,h3⟩
   ·by_cases e:S.snap<z
    ·rw[if_pos e] at h3 ⊢
     exact .inr ⟨S,by simp,h3⟩
    ·rw[if_neg e] at h3 ⊢
     exact .inl h3
   ·exact .inr ⟨T,by simp[hT],h3⟩
theorem qK (X:ap):∀ m,cO X m≤X.latest∧(∀ k,k<m→0<(X.ses k).num→cO X m≤(X.ses k).snap)∧(cO X m=X.latest∨∃ k,k<m∧0<(X.ses k).num∧cO X m=(X.ses k).snap)
 |0=>⟨Int.le_refl _,fun k hk=>(by omega),.inl rfl⟩
 |m+1=>by
  obtain⟨h1,h2,h3⟩:=qK X m
  have e:cO X (m+1)=if 0<(X.ses m).num∧(X.ses m).snap<cO X m then (X.ses m).snap else cO X m:=rfl
  rw[e]
  by_cases hc:0<(X.ses m).num∧(X.ses m).snap<cO X m
  ·rw[if_pos hc]
   refine⟨by omega,fun k hk hn=>?_,.inr ⟨m,by omega,hc.1,rfl⟩⟩
   by_cases ek:k=m
   ·subst ek;exact Int.le_refl _
   ·have:=h2 k (by omega) hn
    omega
  ·rw[if_neg hc]
   refine⟨h1,fun k hk hn=>?_,?_⟩
   ·by_cases ek:k=m
    ·subst ek
     have:¬(X.ses k).snap<cO X k:=fun e=>hc ⟨hn,e⟩
     omega
    ·exact h2 k (by omega) hn
   ·rcases h3 with h3|⟨k,hk,a,b⟩
    ·exact .inl h3
    ·exact .inr ⟨k,by omega,a,b⟩
theorem dm.place {X:ap}{F:dN}{E:bm}(h:dm X F E){S:br}(hS:S∈E.opn):∃ k,k<8∧(X.ses k).num=S.num∧(X.ses k).snap=S.snap:=by
 obtain⟨L,hs⟩:=h.sim
 have hm:S.nf∈E.nf.opn:=List.mem_map.mpr ⟨S,hS,rfl⟩
 rw[hs.opn] at hm
 obtain⟨q,hq,e⟩:=List.mem_map.mp hm
 have h1:=hs.ses q hq
 rw[e] at h1
 exact⟨q.1,hs.lt q hq,h1.num,h1.snap⟩
theorem dm.held {X:ap}{F:dN}{E:bm}(h:dm X F E){k:Nat}(hk:k<8)(hn:0<(X.ses k).num):∃ S∈E.opn,(X.ses k).num=S.num∧(X.ses k).snap=S.snap:=by
 obtain⟨L,hs⟩:=h.sim
 by_cases hex:∀ q∈L,q.1≠k
 ·have:(X.ses k).num=0:=hs.free k hk hex
  omega
 ·simp only[Classical.not_forall] at hex
  obtain⟨q,hq,hne⟩:=hex
  have hne':q.1=k:=Classical.byContradiction hne
  have h1:=hs.ses q hq
  rw[hne'] at h1
  have hm:q.2∈E.nf.opn:=by rw[hs.opn];exact List.mem_map.mpr ⟨q,hq,rfl⟩
  obtain⟨S,hS,e⟩:=List.mem_map.mp hm
  rw[←e] at h1
  exact⟨S,hS,h1.num,h1.snap⟩
theorem dm.old {X:ap}{F:dN}{E:bm}(h:dm X F E):cO X 8=jG E:=by
 obtain⟨a1,a2,a3⟩:=qK X 8
 obtain⟨b1,b2,b3⟩:=sC E.opn E.com.length
 have hl:=h.latest
 have h1:cO X 8≤jG E:=by
  unfold jG
  rcases b3 with e|⟨S,hS,e⟩
  ·rw[e];omega
  ·rw[e]
   obtain⟨k,hk,e1,e2⟩:=h.place hS
   rw[←e2]
   exact a2 k hk (by rw[e1];have:=(h.pos hS).1;omega)
 have h2:jG E≤cO X 8:=by
  unfold jG
  rcases a3 with e|⟨k,hk,hn,e⟩
  ·rw[e,hl];exact b1
  ·rw[e]
   obtain⟨S,hS,_,e2⟩:=h.held hk hn
   rw[e2]
   exact b2 S hS
 omega
def lT (K:List (Int×Wr)):Nat→Nat
 |0=>0
 |n+1=>lT K n+(dG K n).length
theorem pG (v:Int×Wr)(K:List (Int×Wr))(c0:Nat)(h0:c0<60)(hc:v.2.1=ax c0):∀ n,n≤60→lT (v::K) n=lT K n+(if c0<n then 1 else 0)
 |0,_=>by simp[lT]
 |n+1,hn=>by
  unfold lT
  rw[pG v K c0 h0 hc n (by omega)]
  have e:dG (v::K) n=(if c0=n then [(v.1,lH v.2.2)] else [])++dG K n:=by
   unfold dG
   rw[List.filterMap_cons]
   by_cases e:c0=n
   ·rw[if_pos e,if_pos (by rw[hc,e])]
    rfl
   ·rw[if_neg e,if_neg (by rw[hc];exact fun he=>e (gS h0 (by omega) he))]
    rfl
  rw[e,List.length_append]
  by_cases e1:c0=n
  ·rw[if_pos e1,if_neg (by omega),if_pos (by omega)]
   simp
   omega
  ·rw[if_neg e1]
   by_cases e2:c0<n
   ·rw[if_pos e2,if_pos (by omega)]
    simp
    omega
   ·rw[if_neg e2,if_neg (by omega)]
    simp
theorem rX:∀ {K:List (Int×Wr)} ,(∀ v∈K,∃ c,c<60∧v.2.1=ax c)→lT K 60=K.length
 |[],_=>by
  have:∀ n,lT [] n=0:=fun n=>by
   induction n with
   |zero=>rfl
   |succ n ih=>
    unfold lT
    rw[ih]
    rfl
  rw[this]
  rfl
 |v::K,h=>by
  obtain⟨c0,h0,hc⟩:=h v (by simp)
  rw[pG v K c0 h0 hc 60 (Nat.le_refl _),rX (fun u hu=>h u (by simp[hu])),if_pos h0]
  rfl
theorem ml.len {X:ap}{E:bm}(h:ml X E):keptN X 60=E.kept.length:=by
 rw[←rX h.cell]
 have:∀ n,n≤60→keptN X n=lT E.kept n:=fun n=>by
  induction n with
  |zero=>intro _;rfl
  |succ n ih=>
   intro hn
   unfold keptN lT
   rw[ih (by omega),h.hist n (by omega)]
 exact this 60 (Nat.le_refl _)
theorem uv {h:gw}{t:Int}(h1:1≤(aN h t).1):aN h t∈h:=by
 unfold aN at h1 ⊢
 cases hf:h.reverse.find? (fun p=>decide (p.1≤t)) with
 |none=>rw[hf] at h1;simp at h1
 |some q=>exact List.mem_reverse.mp (List.mem_of_find?_eq_some hf)
theorem wD.uniq {h:gw}(hi:wD h){p q:Int×Option Int}(hp:p∈h)(hq:q∈h)(e:p.1=q.1):p=q:=by
 have ho:=hi.ord
 obtain⟨i,hi1,rfl⟩:=List.mem_iff_getElem.mp hp
 obtain⟨j,hj1,rfl⟩:=List.mem_iff_getElem.mp hq
 rw[List.pairwise_iff_getElem] at ho
 rcases Nat.lt_trichotomy i j with h|h|h
 ·have:=ho i j hi1 hj1 h
  omega
 ·subst h;rfl
 ·have:=ho j i hj1 hi1 h
  omega
theorem id.ver {X:ap}{E:bm}{L:List (Nat×br)}(h:id X E L){c:Nat}(hc:c<60){t:Nat}(ht:t≤E.com.length):aN (X.hist c) t=((dM E.com (ax c) t).2,lH (dM E.com (ax c) t).1):=
 Prod.ext (h.histS c hc t ht) (by rw[gt];exact h.hist c hc t ht)
theorem Bo {X:ap}{F:dN}{E:bm}(h:dm X F E){lo old:Int}(hh:px X E lo)(hlo:lo≤old)(h0:0≤old)(hle:old≤E.com.length){c:Nat}(hc:c<60)(hi:wD (X.hist c)){v:Int×Wr}(hv:v∈E.kept)(hvc:v.2.1=ax c):gE E old v=jR (X.hist c) old (v.1,lH v.2.2):=by
 obtain⟨w1,w2,w3⟩:=h.kept.was v hv
 obtain⟨L,hs⟩:=h.sim
 have hin:(v.1,lH v.2.2)∈X.hist c:=by
  rw[h.kept.hist c hc]
  unfold dG
  rw[List.mem_filterMap]
  exact⟨v,hv,by rw[if_pos hvc]⟩
 unfold gE jR
 by_cases hneg:v.2.2<0
 ·rw[if_pos hneg]
  have:lH v.2.2=none:=by unfold lH;rw[if_pos hneg]
  rw[this]
  simp
 ·rw[if_neg hneg]
  have hsome:lH v.2.2=some v.2.2:=by unfold lH;rw[if_neg hneg]
  rw[hsome,hvc]
  rw[hvc] at w3
  by_cases hgt:old<v.1
  ·have e1:decide (old<v.1)=true:=by simpa using hgt
   simp only[e1,Bool.true_or]
   rw[List.any_eq_true]
   refine⟨v.1.toNat,by simp;omega,?_⟩
   rw[w3]
   simp
   omega
  ·have e1:decide (old<v.1)=false:=by simpa using hgt
   simp only[e1,Bool.false_or,Option.isSome_some,Bool.and_true]
   have hver:aN (dA E.com c) old=((dM E.com (ax c) old.toNat).2,lH (dM E.com (ax c) old.toNat).1):=by
    have:=hs.ver hc (t:=old.toNat) (by show old.toNat≤E.com.length;omega)
    have e:((old.toNat:Nat):Int)=old:=Int.toNat_of_nonneg h0
    rw[e] at this
    exact this
   have hse:=hh.seen c hc old hlo hle
   rw[hver] at hse
   rw[Bool.eq_iff_iff,List.any_eq_true,decide_eq_true_eq]
   constructor
   ·rintro⟨t,ht,hm⟩
    simp only[Bool.and_eq_true,decide_eq_true_eq,beq_iff_eq] at hm
    obtain⟨m1,m2⟩:=hm
    have hfl:=uq (com:=E.com) (c:=ax c) (t:=old.toNat) (u:=t) (by omega) (by rw[m2];omega)
    have hst:=(ul (com:=E.com) (c:=ax c) (t:=t) (by omega)).2
    rw[m2,w3] at hst
    have ho:dM E.com (ax c) old.toNat=(v.2.2,v.1):=by rw[hfl,←hst]
    rw[ho] at hse
    simp only[hsome] at hse
    have:=hse.2 (by rw[hse.1];rfl)
    rw[this]
   ·intro he
    have hm:aN (X.hist c) old∈X.hist c:=uv (by omega)
    have hu:=hi.uniq hm hin he.symm
    rw[hu,hsome] at hse
    have h3:=hse.2 rfl
    refine⟨old.toNat,by simp;omega,?_⟩
    simp only[Bool.and_eq_true,decide_eq_true_eq,beq_iff_eq]
    refine⟨by omega,?_⟩
    have:=congrArg Prod.fst h3
    exact this.symm
theorem ry {K:List (Int×Wr)}{c:Nat}{p:Int×Wr→Bool}{q:Int×Option Int→Bool}(h:∀ v∈K,v.2.1=ax c→p v=q (v.1,lH v.2.2)):dG (K.filter p) c=(dG K c).filter q:=by
 induction K with
 |nil=>rfl
 |cons v K ih=>
  have ih':=ih (fun u hu=>h u (by simp[hu]))
  have e:∀ (v:Int×Wr) (K:List (Int×Wr)),dG (v::K) c=if v.2.1=ax c then (v.1,lH v.2.2)::dG K c else dG K c:=fun v K=>by
   unfold dG
   rw[List.filterMap_cons]
   by_cases e:v.2.1=ax c
   ·rw[if_pos e,if_pos e]
   ·rw[if_neg e,if_neg e]
  rw[e]
  by_cases hc:v.2.1=ax c
  ·rw[if_pos hc,List.filter_cons,List.filter_cons,←h v (by simp) hc]
   cases p v with
   |true=>simp only[if_true];rw[e,if_pos hc,ih']
   |false=>simpa using ih'
  ·rw[if_neg hc,List.filter_cons]
   cases p v with
   |true=>simp only[if_true];rw[e,if_neg hc,ih']
   |false=>simpa using ih'
theorem id.swap {X X':ap}{E E':bm}{L:List (Nat×br)}(h:id X E L)(h1:X'.src=X.src)(h2:X'.opened=X.opened)(h3:X'.ses=X.ses)(h4:X'.latest=X.latest)(h5:X'.last=X.last)(h6:∀ c,c<60→X'.hist c=X.hist c)(e1:E'.room=E.room)(e2:E'.com=E.com)(e3:E'.opn=E.opn)(e4:E'.opened=E.opened)(e5:keptN X' 60=E'.kept.length):id X' E' L:=
 { opn:=by rw[e3];exact h.opn,places:=h.places,lt:=h.lt,ses:=by rw[h3];exact h.ses,free:=by rw[h3];exact h.free,nums:=h.nums,opened:=by rw[h2,e4];exact h.opened,openedPos:=by rw[e4];exact h.openedPos,numLe:=by rw[e4];exact h.numLe,snap:=by rw[e2];exact h.snap,latest:=by rw[h4,e2];exact h.latest,hist:=fun c hc t ht=>by rw[h6 c hc,e2];exact h.hist c hc t (by rw[←e2];exact ht),histS:=fun c hc t ht=>by rw[h6 c hc,e2];exact h.histS c hc t (by rw[←e2];exact ht),histLe:=fun c hc p hp=>by rw[e2];exact h.histLe c hc p (by rw[←h6 c hc];exact hp),last:=fun c hc=>by rw[h5,e2];exact h.last c hc,room:=by unfold ap.room;rw[h1,e1];exact h.room,kept:=e5 }
theorem lW (X:ap)(com:List (List Wr)):keptN (X.full com) 60=sj com:=eH (X:=⟨((.bool false,0),ByteArray.empty,[]),0,fun _=>.zero,0,fun _=>0,dA com⟩) (Y:=X.full com) rfl 60
theorem dm.sweep {i:Nat}{X:ap}{F:dN}{E:bm}(h:dm X F E)(hg:eQ i X):(cq X).1=(dS E).1∧dm (cq X).2 F (dS E).2:=by
 have hold:=h.old
 have hla:=h.latest
 obtain⟨a1,a2,a3⟩:=qK X 8
 have h0:0≤cO X 8:=by
  rcases a3 with e|⟨k,hk,_,e⟩
  ·rw[e];exact hg.latest.1
  ·rw[e];exact (hg.snap k hk).1
 obtain⟨lo,hh⟩:=h.his
 have hlo:lo≤cO X 8:=by
  rcases a3 with e|⟨k,hk,hn,e⟩
  ·rw[e,hla];exact hh.le
  ·obtain⟨S,hS,_,e2⟩:=h.held hk hn
   rw[e,e2]
   exact hh.snap S hS
 have hle:cO X 8≤E.com.length:=by omega
 have hkept:ml (X.swept (cO X 8)) (E.swept (cO X 8)):=by
  refine⟨fun c hc=>?_,fun v hv=>h.kept.cell v (List.mem_filter.mp hv).1,fun v hv=>h.kept.was v (List.mem_filter.mp hv).1⟩
  show dx (X.hist c) (cO X 8)=dG (E.kept.filter (gE E (cO X 8))) c
  rw[ry (q:=jR (X.hist c) (cO X 8)) (fun v hv hvc=>Bo h hh hlo h0 hle hc (hg.inc c) hv hvc),←h.kept.hist c hc]
  rfl
 refine⟨?_,?_⟩
 ·unfold cq dS
  rw[h.kept.len,hkept.len,hold]
 ·show dm (X.swept (cO X 8)) F (E.swept (jG E))
  rw[←hold]
  refine⟨?_,⟨cO X 8,hle,fun S hS=>?_,fun c hc t h1 h2=>?_⟩,hkept,h.fire⟩
  ·obtain⟨L,hs⟩:=h.sim
   exact⟨L,hs⟩
  ·obtain⟨k,hk,e1,e2⟩:=h.place hS
   rw[←e2]
   exact a2 k hk (by rw[e1];have:=(h.pos hS).1;omega)
  ·exact (xy (hg.inc c) h1).trans (hh.seen c hc t (by omega) h2)
end Go.Proofs.YthlhbjnkohinmabGreat
