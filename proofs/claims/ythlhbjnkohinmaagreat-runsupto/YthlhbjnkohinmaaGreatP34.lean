import Derived.Test.YthlhbjnkohinmaaGreatP33
import Derived.Test.YthlhbjnkohinmaaGreatP12
namespace Go.Proofs.YthlhbjnkohinmaaGreat
set_option maxRecDepth 100000
set_option maxHeartbeats 8000000
open Go.RowKit
def dG (K:List (Int×Wr)) (c:Nat):gt:=K.filterMap fun v=>if v.2.1=aw c then some (v.1,lH v.2.2) else none
theorem pw (K K':List (Int×Wr)) (c:Nat):dG (K++K') c=dG K c++dG K' c:=by unfold dG;rw[List.filterMap_append]
structure px (X:ap) (E:bk) (lo:Int):Prop where
 le:lo≤E.com.length
 snap:∀ S∈E.opn,lo≤S.snap
 seen:∀ c,c<60→∀ t:Int,lo≤t→t≤E.com.length→eZ (aM (X.hist c) t) (aM (dy E.com c) t)
structure md (X:ap) (E:bk):Prop where
 hist:∀ c,c<60→X.hist c=dG E.kept c
 cell:∀ v∈E.kept,∃ c,c<60∧v.2.1=aw c
 was:∀ v∈E.kept,1≤v.1∧v.1≤E.com.length∧dK E.com v.2.1 v.1.toNat=(v.2.2,v.1)
def fS (com:List (List Wr)) (sn:Int):Nat→Int×Option Int:=fun c=>aM (dy com c) sn
def kx (s:ByteArray) (R:List ax) (com:List (List Wr)) (P:aI) (fm:Nat→Option Int) (S:br):Prop:=∃ Rs,S.fired=Rs.map (mB S.snap)∧fm=tp Rs∧my P (fS com S.snap)∧iT s R P (fS com S.snap) Rs
def l8 (X:ap) (F:dN) (E:bk):Prop:=∀ S∈E.opn,∀ k,k<8→(X.ses k).num=S.num→kx X.src.2.1 X.src.2.2 E.com (X.ses k) (F k) S
structure dk (X:ap) (F:dN) (E:bk):Prop where
 sim:∃ L,g9 (X.full E.com) E.nf L
 his:∃ lo,px X E lo
 kept:md X E
 fire:l8 X F E
theorem dk.pos {X:ap} {F:dN} {E:bk} (h:dk X F E) {S:br} (hS:S∈E.opn):1≤S.num∧S.num≤E.opened∧0≤S.snap∧S.snap≤E.com.length:=by
 obtain⟨L,hs⟩:=h.sim
 have hm:S.nf∈E.nf.opn:=List.mem_map.mpr ⟨S,hS,rfl⟩
 rw[hs.opn] at hm
 obtain⟨q,hq,e⟩:=List.mem_map.mp hm
 have h1:=(hs.ses q hq).pos
 have h2:=hs.numLe q hq
 have h3:=hs.snap q hq
 rw[e] at h1 h2 h3
 exact⟨h1,h2,h3⟩
theorem dk.opened {X:ap} {F:dN} {E:bk} (h:dk X F E):X.opened=E.opened:=by
 obtain⟨L,hs⟩:=h.sim
 exact hs.opened
theorem dk.latest {X:ap} {F:dN} {E:bk} (h:dk X F E):X.latest=E.com.length:=by
 obtain⟨L,hs⟩:=h.sim
 exact hs.latest
theorem dk.room {X:ap} {F:dN} {E:bk} (h:dk X F E):X.room=E.room:=by
 obtain⟨L,hs⟩:=h.sim
 exact hs.room
theorem dk.len {X:ap} {F:dN} {E:bk} (h:dk X F E):E.opn.length≤8:=by
 obtain⟨L,hs⟩:=h.sim
 have:=hs.len
 rw[E.nf_len] at this
 exact this
theorem dk.find {X:ap} {F:dN} {E:bk} (h:dk X F E) (n:Int) :
  (aL X n=none∧eF E.opn n=none∧dq E.opn n=none)∨∃ (i k:Nat) (hi:i<E.opn.length),k<8∧E.opn[i].num=n∧(X.ses k).num=n∧aL X n=some k∧eF E.opn n=some i∧dq E.opn n=some E.opn[i]∧df (X.ses k) E.opn[i].nf∧clash X (X.ses k)=dZ E E.opn[i]:=by
 obtain⟨L,hs⟩:=h.sim
 rcases hs.find n with ⟨h1,h2,h3⟩|⟨i,hi,hi2,e,hn,h1,h2,h3⟩
 ·refine .inl ⟨h1,?_,?_⟩
  ·have:eF E.nf.opn n=eF E.opn n:=lk _ _
   rw[←this];exact h2
  ·have:dq E.nf.opn n=(dq E.opn n).map br.nf:=ph _ _
   rw[this] at h3
   simpa using h3
 ·have hi3:i<E.opn.length:=by rw[←E.nf_len];exact hi2
  have e2:E.nf.opn[i]=E.opn[i].nf:=by simp[bk.nf]
  have e3:L[i].2=E.opn[i].nf:=by rw[←e,e2]
  have e4:eF E.opn n=some i:=by
   have:eF E.nf.opn n=eF E.opn n:=lk _ _
   rw[←this];exact h2
  obtain⟨_,g1,g2⟩:=iG e4
  have hs1:=hs.ses _ (List.getElem_mem hi)
  refine .inr ⟨i,L[i].1,hi3,hs.lt _ (List.getElem_mem hi),g1,?_,h1,e4,gh hi3 g1 g2,?_,?_⟩
  ·have:=hs1.num
   rw[hn] at this
   exact this
  ·rw[←e3]
   exact hs1
  ·have hc:=hs.clash (List.getElem_mem hi)
   rw[e3] at hc
   exact hc
theorem px.same {X X':ap} {E E':bk} {lo:Int} (h:px X E lo) (hh:X'.hist=X.hist) (hc:E'.com=E.com) (ho:∀ S'∈E'.opn,S'.snap=E.com.length∨∃ S∈E.opn,S'.snap=S.snap):px X' E' lo:=by
 refine⟨by rw[hc];exact h.le,fun S' hS'=>?_,fun c hl t h1 h2=>?_⟩
 ·rcases ho S' hS' with e|⟨S,hS,e⟩
  ·rw[e];exact h.le
  ·rw[e];exact h.snap S hS
 ·rw[hh,hc]
  rw[hc] at h2
  exact h.seen c hl t h1 h2
theorem md.same {X X':ap} {E E':bk} (h:md X E) (hh:X'.hist=X.hist) (hc:E'.com=E.com) (hk:E'.kept=E.kept):md X' E':=
 ⟨fun c hl=>by rw[hh,hk];exact h.hist c hl,fun v hv=>h.cell v (by rw[←hk];exact hv),fun v hv=>by rw[hc];exact h.was v (by rw[←hk];exact hv)⟩
theorem kx.put {s:ByteArray} {R:List ax} {com:List (List Wr)} {P:aI} {fm:Nat→Option Int} {S:br} (h:kx s R com P fm S) (c:Nat) (v:Option Int):kx s R com (P.put c v) fm S:=by
 obtain⟨Rs,h1,h2,h3,h4⟩:=h
 exact⟨Rs,h1,h2,h3.put c v,h4.put c v⟩
theorem kx.ses {s:ByteArray} {R:List ax} {com:List (List Wr)} {P:aI} {fm:Nat→Option Int} {S S':br} (h:kx s R com P fm S) (h1:S'.fired=S.fired) (h2:S'.snap=S.snap):kx s R com P fm S':=by
 obtain⟨Rs,k1,k2,k3,k4⟩:=h
 exact⟨Rs,by rw[h1,h2];exact k1,k2,by rw[h2];exact k3,by rw[h2];exact k4⟩
theorem pO {E:bk} {i:Nat} {p:Wr} {S':br} (h:S'∈(i9 E i p).opn):∃ S∈E.opn,S'.num=S.num∧S'.snap=S.snap∧S'.fired=S.fired:=by
 obtain⟨j,hj,rfl⟩:=List.mem_iff_getElem.mp h
 have hj2:j<E.opn.length:=by simpa [i9] using hj
 refine⟨E.opn[j],List.getElem_mem hj2,?_⟩
 simp only[i9,List.getElem_modify]
 split <;> exact⟨rfl,rfl,rfl⟩
theorem l8.write {X:ap} {F:dN} {E:bk} (h:l8 X F E) (k:Nat) (c:Nat) (v:Option Int) (i:Nat) (p:Wr):l8 (X.setSes k ((X.ses k).put c v)) (cy X (X.setSes k ((X.ses k).put c v)) F) (i9 E i p):=by
 intro S' hS' j hj hn
 obtain⟨S,hS,e1,e2,e3⟩:=pO hS'
 have hnum:((X.setSes k ((X.ses k).put c v)).ses j).num=(X.ses j).num:=by
  show (cH X.ses k _ j).num=_
  by_cases e:j=k
  ·subst e;rw[aW];rfl
  ·rw[bE _ _ _ e]
 have h0:=h S hS j hj (by rw[←hnum,hn,e1])
 have hF:cy X (X.setSes k ((X.ses k).put c v)) F j=F j:=by unfold cy;rw[if_pos hnum]
 rw[hF]
 refine kx.ses (S:=S) ?_ e3 e2
 show kx X.src.2.1 X.src.2.2 E.com (cH X.ses k ((X.ses k).put c v) j) (F j) S
 by_cases e:j=k
 ·subst e;rw[aW];exact h0.put c v
 ·rw[bE _ _ _ e];exact h0
theorem gb (X:ap) (F:dN):cy X X F=F:=by
 funext k
 unfold cy
 rw[if_pos rfl]
theorem dk.open {X:ap} {F:dN} {E:bk} (h:dk X F E):(a8 X).1=(cE E).1∧dk (a8 X).2 (cy X (a8 X).2 F) (cE E).2:=by
 have hpos:=fun S (hS:S∈E.opn)=>h.pos hS
 have hop:=h.opened
 have hla:=h.latest
 obtain⟨⟨L,hs⟩,⟨lo,hh⟩,hk,hf⟩:=h
 obtain⟨h1,L',h2⟩:=hs.open
 have hop0:0≤E.opened:=hs.openedPos
 rw[xI,Ap] at h1 h2
 have hcom:(cE E).2.com=E.com:=by unfold cE;split <;> rfl
 have hkept:(cE E).2.kept=E.kept:=by unfold cE;split <;> rfl
 have hhist:(a8 X).2.hist=X.hist:=by unfold a8;cases ba X 0 <;> rfl
 have hopn:∀ S'∈(cE E).2.opn,S'∈E.opn∨(S'=⟨E.opened+1,E.com.length,[],[]⟩∧E.opn.length<8):=fun S' hS'=>by
  unfold cE at hS'
  split at hS'
  ·exact .inl hS'
  ·rename_i h8
   rcases List.mem_append.mp hS' with h|h
   ·exact .inl h
   ·rw[List.mem_singleton] at h
    exact .inr ⟨h,by omega⟩
 refine⟨h1,⟨L',by rw[hcom];exact h2⟩,⟨lo,hh.same hhist hcom (fun S' hS'=>?_)⟩,hk.same hhist hcom hkept,fun S' hS' j hj hn=>?_⟩
 ·rcases hopn S' hS' with e|⟨e,_⟩
  ·exact .inr ⟨S',e,rfl⟩
  ·left
   rw[e]
 ·have hsrc:(a8 X).2.src=X.src:=by unfold a8;cases ba X 0 <;> rfl
  rw[hsrc,hcom]
  have hses:(a8 X).2=X∨∃ k,(X.ses k).num=0∧(a8 X).2.ses=cH X.ses k (.new (X.opened+1) X.latest):=by
   unfold a8
   cases hz:ba X 0 with
   |none=>exact .inl rfl
   |some k=>exact .inr ⟨k,(bu hz).2,rfl⟩
  rcases hses with e0|⟨k,hk0,e0⟩
  ·rw[e0] at hn
   rcases hopn S' hS' with e|⟨e,_⟩
   ·have:=hf S' e j hj hn
    rw[e0,gb]
    exact this
   ·exfalso
    by_cases hfull:(X.ses j).num=E.opened+1
    ·have h3:=hs.free j hj
     by_cases hex:∀ q∈L,q.1≠j
     ·have:=h3 hex
      have h4:(X.ses j).num=0:=this
      omega
     ·simp only[Classical.not_forall] at hex
      obtain⟨q,hq,hne⟩:=hex
      have hne':q.1=j:=Classical.byContradiction hne
      have h5:=(hs.ses q hq).num
      have h6:=hs.numLe q hq
      rw[hne'] at h5
      have h7:(X.ses j).num=q.2.num:=h5
      have h8:q.2.num≤E.opened:=h6
      omega
    ·exact hfull (by rw[hn,e])
  ·by_cases ej:j=k
   ·have hnew:(a8 X).2.ses j=.new (X.opened+1) X.latest:=by rw[e0,ej,aW]
    have hnum:((a8 X).2.ses j).num=X.opened+1:=by rw[hnew];rfl
    have hF:cy X (a8 X).2 F j=uQ:=by
     unfold cy
     rw[if_neg]
     rw[hnum,ej,hk0]
     omega
    rcases hopn S' hS' with e|⟨e,_⟩
    ·exfalso
     have:=hpos S' e
     omega
    ·rw[hF,hnew,e]
     refine⟨[],rfl,rfl,⟨?_,Int.le_refl 0,fun c v hv=>(by cases hv),fun c v hv=>?_⟩,⟨fun r hr=>(by cases hr),fun r hr=>(by cases hr),fun r hr=>(by cases hr),fun r hr=>(by cases hr),List.Pairwise.nil⟩⟩
     ·show 0≤X.latest
      rw[hla]
      omega
     ·have hm:=nZ hv
      have h1:1≤(aM (dy E.com c) E.com.length).1∧(aM (dy E.com c) E.com.length).1≤E.com.length:=lq hm
      show 0<(aM (dy E.com c) E.com.length).1∧(aM (dy E.com c) E.com.length).1≤X.latest
      rw[hla]
      exact⟨by omega,h1.2⟩
   ·have hold:(a8 X).2.ses j=X.ses j:=by rw[e0,bE _ _ _ ej]
    have hF:cy X (a8 X).2 F j=F j:=by
     unfold cy
     rw[if_pos (by rw[hold])]
    rw[hold] at hn
    rw[hF,hold]
    rcases hopn S' hS' with e|⟨e,_⟩
    ·exact hf S' e j hj hn
    ·exfalso
     rw[e] at hn
     have h3:=hs.free j hj
     by_cases hex:∀ q∈L,q.1≠j
     ·have:=h3 hex
      have h4:(X.ses j).num=0:=this
      have h5:(X.ses j).num=E.opened+1:=hn
      have h6:0≤E.opened:=hop0
      omega
     ·simp only[Classical.not_forall] at hex
      obtain⟨q,hq,hne⟩:=hex
      have hne':q.1=j:=Classical.byContradiction hne
      have h5:=(hs.ses q hq).num
      have h6:=hs.numLe q hq
      rw[hne'] at h5
      have h7:(X.ses j).num=q.2.num:=h5
      have h8:q.2.num≤E.opened:=h6
      have h9:(X.ses j).num=E.opened+1:=hn
      omega
theorem dk.put {X:ap} {F:dN} {E:bk} (h:dk X F E) (n:Int) (s:ByteArray):(cj X n s).1=(fw E n s).1∧dk (cj X n s).2 (cy X (cj X n s).2 F) (fw E n s).2:=by
 have hfd:=h.find n
 have h0:=h
 obtain⟨⟨L,hs⟩,⟨lo,hh⟩,hk,hf⟩:=h
 obtain⟨h1,L',h2⟩:=hs.put n s
 rw[A0,El] at h1 h2
 refine⟨h1,?_⟩
 rcases hfd with ⟨e1,e2,_⟩|⟨i,k,hi,_,_,_,e1,e2,_⟩
 ·have a1:(cj X n s).2=X:=by unfold cj;rw[e1]
  have a2:(fw E n s).2=E:=by unfold fw;rw[e2]
  rw[a1,a2,gb]
  exact h0
 ·cases hb:eP s with
  |false=>
   have a1:(cj X n s).2=X:=by unfold cj;rw[e1,hb];rfl
   have a2:(fw E n s).2=E:=by unfold fw;rw[e2,hb];rfl
   rw[a1,a2,gb]
   exact h0
  |true=>
   have a1:(cj X n s).2=X.setSes k ((X.ses k).put (dM s) (some (bt s 2 - 48))):=by unfold cj;rw[e1,hb];rfl
   have a2:(fw E n s).2=i9 E i (s.extract 0 2,bt s 2 - 48):=by unfold fw;rw[e2,hb];rfl
   rw[a1,a2] at h2
   rw[a1,a2]
   refine⟨⟨L',h2⟩,⟨lo,hh.same rfl rfl (fun S' hS'=>?_)⟩,hk.same rfl rfl rfl,hf.write k _ _ i _⟩
   obtain⟨S,hS,_,e,_⟩:=pO hS'
   exact .inr ⟨S,hS,e⟩
theorem dk.clear {X:ap} {F:dN} {E:bk} (h:dk X F E) (n:Int) (s:ByteArray):(aY X n s).1=(cS E n s).1∧dk (aY X n s).2 (cy X (aY X n s).2 F) (cS E n s).2:=by
 have hfd:=h.find n
 have h0:=h
 obtain⟨⟨L,hs⟩,⟨lo,hh⟩,hk,hf⟩:=h
 obtain⟨h1,L',h2⟩:=hs.clear n s
 rw[wm,Bo] at h1 h2
 refine⟨h1,?_⟩
 rcases hfd with ⟨e1,e2,_⟩|⟨i,k,hi,_,_,_,e1,e2,_⟩
 ·have a1:(aY X n s).2=X:=by unfold aY;rw[e1]
  have a2:(cS E n s).2=E:=by unfold cS;rw[e2]
  rw[a1,a2,gb]
  exact h0
 ·cases hb:eC s with
  |false=>
   have a1:(aY X n s).2=X:=by unfold aY;rw[e1,hb];rfl
   have a2:(cS E n s).2=E:=by unfold cS;rw[e2,hb];rfl
   rw[a1,a2,gb]
   exact h0
  |true=>
   have a1:(aY X n s).2=X.setSes k ((X.ses k).put (dM s) none):=by unfold aY;rw[e1,hb];rfl
   have a2:(cS E n s).2=i9 E i (s,-1):=by unfold cS;rw[e2,hb];rfl
   rw[a1,a2] at h2
   rw[a1,a2]
   refine⟨⟨L',h2⟩,⟨lo,hh.same rfl rfl (fun S' hS'=>?_)⟩,hk.same rfl rfl rfl,hf.write k _ _ i _⟩
   obtain⟨S,hS,_,e,_⟩:=pO hS'
   exact .inr ⟨S,hS,e⟩
theorem l8.drop {X:ap} {F:dN} {E:bk} (h:l8 X F E) (hp:∀ S∈E.opn,1≤S.num) (k:Nat) (n:Int):l8 (X.setSes k .zero) (cy X (X.setSes k .zero) F) (dF E n):=by
 intro S hS j hj hn
 have hS0:S∈E.opn:=(List.mem_filter.mp hS).1
 by_cases e:j=k
 ·exfalso
  have h1:(X.setSes k .zero).ses j=.zero:=by rw[e];exact aW _ _ _
  rw[h1] at hn
  have h2:(0:Int)=S.num:=hn
  have:=hp S hS0
  omega
 ·have h1:(X.setSes k .zero).ses j=X.ses j:=bE _ _ _ e
  have hF:cy X (X.setSes k .zero) F j=F j:=by unfold cy;rw[if_pos (by rw[h1])]
  rw[h1] at hn
  rw[hF,h1]
  exact h S hS0 j hj hn
theorem jG {E:bk} {n:Int} {S:br} (h:S∈(dF E n).opn):S∈E.opn:=(List.mem_filter.mp h).1
theorem dk.abort {X:ap} {F:dN} {E:bk} (h:dk X F E) (n:Int):(aX X n).1=(cR E n).1∧dk (aX X n).2 (cy X (aX X n).2 F) (cR E n).2:=by
 have hfd:=h.find n
 have hpos:=fun S (hS:S∈E.opn)=>h.pos hS
 have h0:=h
 obtain⟨⟨L,hs⟩,⟨lo,hh⟩,hk,hf⟩:=h
 obtain⟨h1,L',h2⟩:=hs.abort n
 rw[vD,Bw] at h1 h2
 refine⟨h1,?_⟩
 rcases hfd with ⟨e1,e2,_⟩|⟨i,k,hi,_,_,_,e1,e2,_⟩
 ·have a1:(aX X n).2=X:=by unfold aX;rw[e1]
  have a2:(cR E n).2=E:=by unfold cR;rw[e2]
  rw[a1,a2,gb]
  exact h0
 ·have a1:(aX X n).2=X.setSes k .zero:=by unfold aX;rw[e1]
  have a2:(cR E n).2=dF E n:=by unfold cR;rw[e2]
  rw[a1,a2] at h2
  rw[a1,a2]
  exact⟨⟨L',h2⟩,⟨lo,hh.same rfl rfl (fun S' hS'=>.inr ⟨S',jG hS',rfl⟩)⟩,hk.same rfl rfl rfl,hf.drop (fun S hS=>(hpos S hS).1) k n⟩
theorem px.at {X:ap} {E:bk} {lo:Int} (h:px X E lo) {S:br} (hS:S∈E.opn) (hl:S.snap≤E.com.length) {c:Nat} (hc:c<60):eZ (aM (X.hist c) S.snap) (fS E.com S.snap c):=h.seen c hc _ (h.snap S hS) hl
theorem dk.view {X:ap} {F:dN} {E:bk} (h:dk X F E) (n:Int):fL X n=match dq E.opn n with|some S=>(cg (cG E.com S 60),0)|none=>(ByteArray.empty,6):=by
 have hfd:=h.find n
 have hpos:=fun S (hS:S∈E.opn)=>h.pos hS
 obtain⟨⟨L,hs⟩,⟨lo,hh⟩,hk,hf⟩:=h
 have hv:=hs.view n
 rcases hfd with ⟨e1,_,e2⟩|⟨i,k,hi,_,hn,hkn,e1,_,e2,hss,_⟩
 ·rw[e2]
  unfold fL
  rw[e1]
 ·have e3:dq E.nf.opn n=some E.opn[i].nf:=by
   have:dq E.nf.opn n=(dq E.opn n).map br.nf:=ph _ _
   rw[this,e2];rfl
  have e4:aL (X.full E.com) n=some k:=e1
  rw[e3] at hv
  rw[e2]
  unfold fL at hv ⊢
  rw[e4] at hv
  rw[e1]
  have hS:=List.getElem_mem hi
  have e5:ox X k=ox (X.full E.com) k:=by
   unfold ox
   congr 1
   apply dH
   intro c hc
   have hc60:c<60:=by simpa using hc
   have e6:jg X k c=jg (X.full E.com) k c:=by
    unfold jg
    show (match (X.ses k).wr c with|some v=>v|none=>iS (X.hist c) (X.ses k).snap)=match (X.ses k).wr c with|some v=>v|none=>iS (dy E.com c) (X.ses k).snap
    cases (X.ses k).wr c with
    |some v=>rfl
    |none=>
     have hsn:(X.ses k).snap=E.opn[i].snap:=hss.snap
     rw[hsn]
     have:=(hh.at hS (hpos _ hS).2.2.2 hc60).1
     rw[gn] at this
     unfold fS at this
     rw[gn] at this
     exact this
   rw[e6]
  simp only[] at hv ⊢
  rw[e5]
  exact hv
def jU (E:bk):Int:=E.opn.foldl (fun o S=>if S.snap<o then S.snap else o) E.com.length
def gu (E:bk) (old:Int) (v:Int×Wr):Bool:=if v.2.2<0 then decide (v.1>old) else (List.range (E.com.length+1)).any fun t=>decide (old≤(t:Int))&&((dK E.com v.2.1 t).2==v.1)
def bk.swept (E:bk) (old:Int):bk:={ E with kept:=E.kept.filter (gu E old) }
def dT (E:bk):Int×bk:=((E.kept.length:Int) - ((E.swept (jU E)).kept.length:Int),E.swept (jU E))
def dY (E:bk) (m:Nat):bk:=if (E.kept.length:Int)+m>E.room then (dT E).2 else E
theorem wP (y:Nat) (E:bk) (cs:List Value) (fc:List Nat) (a:Option Addr) (cp:Nat) (vs vv:Int) (vc:ByteArray) (old:Nat) (w:World) (hc:w.cell? ⟨y,2,none⟩=some (.slice a E.com.length cp)) (hrow:w.ownsRow 0 97 1 (.slice a E.com.length cp) E.com.length cs) (hcom:aA ik cs E.com w fc) (hlen:E.com.length≤9223372036854775806) (hl:∀ l∈E.com,l.length≤9223372036854775806) (hold:old≤E.com.length) :
  Calls Tryz.prog 72 #[.pointer (some ⟨y,0,none⟩),.agg #[.int .i64 vs,.string vc,.int .i64 vv],.int .i64 old] w fun e w'=>e=.returned (.bool (gu E old (vs,vc,vv)))∧w.grownBy w' none:=by
 have hyl:y<w.heap.size:=World.block_lt_of_cell? w _ hc
 have hyz:y≠w.heap.size:=by omega
 by_cases hneg:vv<0
 ·have HW:Hid (gu E old (vs,vc,vv)=decide (vs>old)):=af (by unfold gu;rw[if_pos hneg])
  clear hc hrow hcom hl
  by_cases hgt:vs>(old:Int)
  ·have HD:Hid (gu E old (vs,vc,vv)=true):=af (by rw[HW.out];exact decide_eq_true hgt)
   go_enter Tryz.func72,Tryz.ntmps72
   go_wp2
   go_ret
   exact⟨by rw[HD.out];rfl,ab (ag _ _) _⟩
  ·have HD:Hid (gu E old (vs,vc,vv)=false):=af (by rw[HW.out];exact decide_eq_false hgt)
   go_enter Tryz.func72,Tryz.ntmps72
   go_wp2
   go_ret
   exact⟨by rw[HD.out];rfl,ab (ag _ _) _⟩
 ·obtain⟨W1,hW1⟩:∃ W1,W1=w.alloc (.cells #[.int .i64 vs,.string vc,.int .i64 vv] 124):=⟨_,rfl⟩
  have hg1:w.grownBy W1 none:=by rw[hW1];exact ab (ag _ _) _
  have HAT:Hid (∀ k:Nat,k≤E.com.length→Calls Tryz.prog 59 #[.pointer (some ⟨y,0,none⟩),.string vc,.int .i64 k] W1 fun e w'=>e=.returned (.tuple #[.int .i64 (dK E.com vc k).1,.int .i64 (dK E.com vc k).2])∧w'=W1):=af (fun k hk=>
   tK y E.com cs fc vc k a _ cp W1 (hg1.cell hc (by simp)) (aq hrow hg1 (fun g hg=>by cases hg)) (aA.framed ik.framed _ _ hcom (aJ hg1) (by simp)) hk (by omega) (fun l hl'=>by have:=hl l hl';omega))
  have HYES:Hid (∀ k:Nat,old≤k→k≤E.com.length→(dK E.com vc k).2=vs→gu E old (vs,vc,vv)=true):=af (fun k h1 h2 h3=>by
   unfold gu
   rw[if_neg hneg,List.any_eq_true]
   refine⟨k,by simp;omega,?_⟩
   simp only[Bool.and_eq_true,decide_eq_true_eq,beq_iff_eq]
   exact⟨by omega,h3⟩)
  have HNO:Hid ((∀ k:Nat,old≤k→k≤E.com.length→(dK E.com vc k).2≠vs)→gu E old (vs,vc,vv)=false):=af (fun h=>by
   unfold gu
   rw[if_neg hneg,List.any_eq_false]
   intro k hk
   simp only[Bool.and_eq_true,decide_eq_true_eq,beq_iff_eq,not_and]
   intro h1 h2
   exact h k (by omega) (by have:k<E.com.length+1:=by simpa using hk
                            omega) h2)
  have c2:W1.cell? ⟨y,2,none⟩=some (.slice a E.com.length cp):=hg1.cell hc (by simp)
  have HG1:=af hg1
  obtain⟨r,hr⟩:∃ r,r=gu E old (vs,vc,vv):=⟨_,rfl⟩
  rw[←hr] at HYES HNO ⊢
  clear hc hrow hcom hl hg1 hr
  go_enter Tryz.func72,Tryz.ntmps72
  go_wp2_with fail
  have v0:W1.cell? ⟨w.heap.size,0,none⟩=some (.int .i64 vs):=by rw[hW1,World.cell?_alloc_at _ _ _ _ rfl];rfl
  have v1:W1.cell? ⟨w.heap.size,1,none⟩=some (.string vc):=by rw[hW1,World.cell?_alloc_at _ _ _ _ rfl];rfl
  rw[←hW1]
  clear hW1
  go_loop [7] (fun t=>∃ k:Nat,old≤k∧k≤E.com.length+1∧t=.int .i64 k∧∀ j:Nat,old≤j→j<k→(dK E.com vc j).2≠vs) (fun t=>E.com.length+1 - (intOf t).toNat)
  case atStart=>exact⟨old,Nat.le_refl _,by omega,rfl,fun j h1 h2=>by omega⟩
  case round=>
   obtain⟨k,hk,hk2,rfl,hno⟩:=hrel
   have HN:=af hno
   clear hno
   by_cases hlt:k≤E.com.length
   ·have HA:=af (HAT.out k hlt)
    obtain⟨t0,ht0⟩:∃ t0,t0=(dK E.com vc k).2:=⟨_,rfl⟩
    obtain⟨u0,hu0⟩:∃ u0,u0=(dK E.com vc k).1:=⟨_,rfl⟩
    rw[←ht0,←hu0] at HA
    have HT:=af ht0
    clear ht0 hu0
    have hlt':(k:Int)≤(E.com.length:Int):=by omega
    go_wp2_with fail
    go_at_call 59
    refine HA.out.mono ?_
    rintro e w' ⟨rfl,rfl⟩
    by_cases he:t0=vs
    ·have HR:Hid (r=true):=af (HYES.out k hk hlt (by rw[←HT.out];exact he))
     subst he
     go_wp2
     go_ret
     exact⟨by rw[HR.out];rfl,HG1.out⟩
    ·have hb:(t0==vs)=false:=by simpa using he
     have HN2:Hid (∀ j:Nat,old≤j→j<k+1→(dK E.com vc j).2≠vs):=af (fun j h1 h2=>by
      by_cases e:j=k
      ·subst e;rw[←HT.out];exact he
      ·exact HN.out j h1 (by omega))
     go_wp2
     go_round
     case rel=>exact⟨k+1,by omega,by omega,by go_num,HN2.out⟩
     case measure=>simp[intOf];omega
   ·have hlt':¬(k:Int)≤(E.com.length:Int):=by omega
    have HR:Hid (r=false):=af (HNO.out (fun j h1 h2=>HN.out j h1 (by omega)))
    go_wp2
    go_ret
    exact⟨by rw[HR.out];rfl,HG1.out⟩
theorem uv {com:List (List Wr)} {c:ByteArray}:∀ {t:Nat},1≤(dK com c t).2→(dK com c t).2≤t∧dK com c (dK com c t).2.toNat=dK com c t
 |0,h=>by simp[dK] at h
 |t+1,h=>by
  cases hl:bd c (com.getD t []) with
  |some k=>
   have e:dK com c (t+1)=(((com.getD t []).getD k (ByteArray.empty,0)).2,(t:Int)+1):=by rw[dK,hl]
   rw[e]
   refine⟨by simp,?_⟩
   have:((t:Int)+1).toNat=t+1:=by omega
   simp only[this]
   exact e
  |none=>
   have e:dK com c (t+1)=dK com c t:=by rw[dK,hl]
   rw[e] at h ⊢
   obtain⟨h1,h2⟩:=uv h
   exact⟨by omega,h2⟩
theorem vO {com:List (List Wr)} {c:ByteArray} {t:Nat}:∀ {u:Nat},t≤u→(dK com c u).2≤t→dK com c t=dK com c u
 |0,h,_=>by
  have:t=0:=by omega
  subst this
  rfl
 |u+1,h,hs=>by
  by_cases e:t=u+1
  ·subst e;rfl
  ·cases hl:bd c (com.getD u []) with
   |some k=>
    have e:dK com c (u+1)=(((com.getD u []).getD k (ByteArray.empty,0)).2,(u:Int)+1):=by rw[dK,hl]
    rw[e] at hs
    simp only at hs
    omega
   |none=>
    have e:dK com c (u+1)=dK com c u:=by rw[dK,hl]
    rw[e] at hs ⊢
    exact vO (by omega) hs
theorem rQ:∀ (l:List br) (z:Int),l.foldl (fun o S=>if S.snap<o then S.snap else o) z≤z∧(∀ S∈l,l.foldl (fun o S=>if S.snap<o then S.snap else o) z≤S.snap)∧(l.foldl (fun o S=>if S.snap<o then S.snap else o) z=z∨∃ S∈l,l.foldl (fun o S=>if S.snap<o then S.snap else o) z=S.snap)
 |[],z=>⟨Int.le_refl z,fun S hS=>(by cases hS),.inl rfl⟩
 |S::l,z=>by
  rw[List.foldl_cons]
  obtain⟨h1,h2,h3⟩:=rQ l (if S.snap<z then S.snap else z)
  have h4:(if S.snap<z then S.snap else z)≤z∧(if S.snap<z then S.snap else z)≤S.snap:=by split <;> omega
  refine⟨by omega,fun T hT=>?_,?_⟩
  ·rcases List.mem_cons.mp hT with e|hT
   ·rw[e];omega
   ·exact h2 T hT
  ·rcases h3 with h3|⟨T,hT,h3⟩
   ·by_cases e:S.snap<z
    ·rw[if_pos e] at h3 ⊢
     exact .inr ⟨S,by simp,h3⟩
    ·rw[if_neg e] at h3 ⊢
     exact .inl h3
   ·exact .inr ⟨T,by simp[hT],h3⟩
theorem pS (X:ap):∀ m,cN X m≤X.latest∧(∀ k,k<m→0<(X.ses k).num→cN X m≤(X.ses k).snap)∧(cN X m=X.latest∨∃ k,k<m∧0<(X.ses k).num∧cN X m=(X.ses k).snap)
 |0=>⟨Int.le_refl _,fun k hk=>(by omega),.inl rfl⟩
 |m+1=>by
  obtain⟨h1,h2,h3⟩:=pS X m
  have e:cN X (m+1)=if 0<(X.ses m).num∧(X.ses m).snap<cN X m then (X.ses m).snap else cN X m:=rfl
  rw[e]
  by_cases hc:0<(X.ses m).num∧(X.ses m).snap<cN X m
  ·rw[if_pos hc]
   refine⟨by omega,fun k hk hn=>?_,.inr ⟨m,by omega,hc.1,rfl⟩⟩
   by_cases ek:k=m
   ·subst ek;exact Int.le_refl _
   ·have:=h2 k (by omega) hn
    omega
  ·rw[if_neg hc]
   refine⟨h1,fun k hk hn=>?_,?_⟩
   ·by_cases ek:k=m
    ·subst ek
     have:¬(X.ses k).snap<cN X k:=fun e=>hc ⟨hn,e⟩
     omega
    ·exact h2 k (by omega) hn
   ·rcases h3 with h3|⟨k,hk,a,b⟩
    ·exact .inl h3
    ·exact .inr ⟨k,by omega,a,b⟩
theorem dk.place {X:ap} {F:dN} {E:bk} (h:dk X F E) {S:br} (hS:S∈E.opn):∃ k,k<8∧(X.ses k).num=S.num∧(X.ses k).snap=S.snap:=by
 obtain⟨L,hs⟩:=h.sim
 have hm:S.nf∈E.nf.opn:=List.mem_map.mpr ⟨S,hS,rfl⟩
 rw[hs.opn] at hm
 obtain⟨q,hq,e⟩:=List.mem_map.mp hm
 have h1:=hs.ses q hq
 rw[e] at h1
 exact⟨q.1,hs.lt q hq,h1.num,h1.snap⟩
theorem dk.held {X:ap} {F:dN} {E:bk} (h:dk X F E) {k:Nat} (hk:k<8) (hn:0<(X.ses k).num):∃ S∈E.opn,(X.ses k).num=S.num∧(X.ses k).snap=S.snap:=by
 obtain⟨L,hs⟩:=h.sim
 by_cases hex:∀ q∈L,q.1≠k
 ·have:(X.ses k).num=0:=hs.free k hk hex
  omega
 ·simp only[Classical.not_forall] at hex
  obtain⟨q,hq,hne⟩:=hex
  have hne':q.1=k:=Classical.byContradiction hne
  have h1:=hs.ses q hq
  rw[hne'] at h1
  have hm:q.2∈E.nf.opn:=by rw[hs.opn];exact List.mem_map.mpr ⟨q,hq,rfl⟩
  obtain⟨S,hS,e⟩:=List.mem_map.mp hm
  rw[←e] at h1
  exact⟨S,hS,h1.num,h1.snap⟩
theorem dk.old {X:ap} {F:dN} {E:bk} (h:dk X F E):cN X 8=jU E:=by
 obtain⟨a1,a2,a3⟩:=pS X 8
 obtain⟨b1,b2,b3⟩:=rQ E.opn E.com.length
 have hl:=h.latest
 have h1:cN X 8≤jU E:=by
  unfold jU
  rcases b3 with e|⟨S,hS,e⟩
  ·rw[e];omega
  ·rw[e]
   obtain⟨k,hk,e1,e2⟩:=h.place hS
   rw[←e2]
   exact a2 k hk (by rw[e1];have:=(h.pos hS).1;omega)
 have h2:jU E≤cN X 8:=by
  unfold jU
  rcases a3 with e|⟨k,hk,hn,e⟩
  ·rw[e,hl];exact b1
  ·rw[e]
   obtain⟨S,hS,_,e2⟩:=h.held hk hn
   rw[e2]
   exact b2 S hS
 omega
def lQ (K:List (Int×Wr)):Nat→Nat
 |0=>0
 |n+1=>lQ K n+(dG K n).length
theorem pY (v:Int×Wr) (K:List (Int×Wr)) (c0:Nat) (h0:c0<60) (hc:v.2.1=aw c0):∀ n,n≤60→lQ (v::K) n=lQ K n+(if c0<n then 1 else 0)
 |0,_=>by simp[lQ]
 |n+1,hn=>by
  unfold lQ
  rw[pY v K c0 h0 hc n (by omega)]
  have e:dG (v::K) n=(if c0=n then [(v.1,lH v.2.2)] else [])++dG K n:=by
   unfold dG
   rw[List.filterMap_cons]
   by_cases e:c0=n
   ·rw[if_pos e,if_pos (by rw[hc,e])]
    rfl
   ·rw[if_neg e,if_neg (by rw[hc];exact fun he=>e (gQ h0 (by omega) he))]
    rfl
  rw[e,List.length_append]
  by_cases e1:c0=n
  ·rw[if_pos e1,if_neg (by omega),if_pos (by omega)]
   simp
   omega
  ·rw[if_neg e1]
   by_cases e2:c0<n
   ·rw[if_pos e2,if_pos (by omega)]
    simp
    omega
   ·rw[if_neg e2,if_neg (by omega)]
    simp
theorem sg:∀ {K:List (Int×Wr)},(∀ v∈K,∃ c,c<60∧v.2.1=aw c)→lQ K 60=K.length
 |[],_=>by
  have:∀ n,lQ [] n=0:=fun n=>by
   induction n with
   |zero=>rfl
   |succ n ih=>
    unfold lQ
    rw[ih]
    rfl
  rw[this]
  rfl
 |v::K,h=>by
  obtain⟨c0,h0,hc⟩:=h v (by simp)
  rw[pY v K c0 h0 hc 60 (Nat.le_refl _),sg (fun u hu=>h u (by simp[hu])),if_pos h0]
  rfl
theorem md.len {X:ap} {E:bk} (h:md X E):keptN X 60=E.kept.length:=by
 rw[←sg h.cell]
 have:∀ n,n≤60→keptN X n=lQ E.kept n:=fun n=>by
  induction n with
  |zero=>intro _;rfl
  |succ n ih=>
   intro hn
   unfold keptN lQ
   rw[ih (by omega),h.hist n (by omega)]
 exact this 60 (Nat.le_refl _)
theorem vY {h:gt} {t:Int} (h1:1≤(aM h t).1):aM h t∈h:=by
 unfold aM at h1 ⊢
 cases hf:h.reverse.find? (fun p=>decide (p.1≤t)) with
 |none=>rw[hf] at h1;simp at h1
 |some q=>exact List.mem_reverse.mp (List.mem_of_find?_eq_some hf)
theorem wy.uniq {h:gt} (hi:wy h) {p q:Int×Option Int} (hp:p∈h) (hq:q∈h) (e:p.1=q.1):p=q:=by
 have ho:=hi.ord
 obtain⟨i,hi1,rfl⟩:=List.mem_iff_getElem.mp hp
 obtain⟨j,hj1,rfl⟩:=List.mem_iff_getElem.mp hq
 rw[List.pairwise_iff_getElem] at ho
 rcases Nat.lt_trichotomy i j with h|h|h
 ·have:=ho i j hi1 hj1 h
  omega
 ·subst h;rfl
 ·have:=ho j i hj1 hi1 h
  omega
theorem g9.ver {X:ap} {E:bk} {L:List (Nat×br)} (h:g9 X E L) {c:Nat} (hc:c<60) {t:Nat} (ht:t≤E.com.length):aM (X.hist c) t=((dK E.com (aw c) t).2,lH (dK E.com (aw c) t).1):=
 Prod.ext (h.histS c hc t ht) (by rw[gn];exact h.hist c hc t ht)
theorem Aw {X:ap} {F:dN} {E:bk} (h:dk X F E) {lo old:Int} (hh:px X E lo) (hlo:lo≤old) (h0:0≤old) (hle:old≤E.com.length) {c:Nat} (hc:c<60) (hi:wy (X.hist c)) {v:Int×Wr} (hv:v∈E.kept) (hvc:v.2.1=aw c):gu E old v=jQ (X.hist c) old (v.1,lH v.2.2):=by
 obtain⟨w1,w2,w3⟩:=h.kept.was v hv
 obtain⟨L,hs⟩:=h.sim
 have hin:(v.1,lH v.2.2)∈X.hist c:=by
  rw[h.kept.hist c hc]
  unfold dG
  rw[List.mem_filterMap]
  exact⟨v,hv,by rw[if_pos hvc]⟩
 unfold gu jQ
 by_cases hneg:v.2.2<0
 ·rw[if_pos hneg]
  have:lH v.2.2=none:=by unfold lH;rw[if_pos hneg]
  rw[this]
  simp
 ·rw[if_neg hneg]
  have hsome:lH v.2.2=some v.2.2:=by unfold lH;rw[if_neg hneg]
  rw[hsome,hvc]
  rw[hvc] at w3
  by_cases hgt:old<v.1
  ·have e1:decide (old<v.1)=true:=by simpa using hgt
   simp only[e1,Bool.true_or]
   rw[List.any_eq_true]
   refine⟨v.1.toNat,by simp;omega,?_⟩
   rw[w3]
   simp
   omega
  ·have e1:decide (old<v.1)=false:=by simpa using hgt
   simp only[e1,Bool.false_or,Option.isSome_some,Bool.and_true]
   have hver:aM (dy E.com c) old=((dK E.com (aw c) old.toNat).2,lH (dK E.com (aw c) old.toNat).1):=by
    have:=hs.ver hc (t:=old.toNat) (by show old.toNat≤E.com.length;omega)
    have e:((old.toNat:Nat):Int)=old:=Int.toNat_of_nonneg h0
    rw[e] at this
    exact this
   have hse:=hh.seen c hc old hlo hle
   rw[hver] at hse
   rw[Bool.eq_iff_iff,List.any_eq_true,decide_eq_true_eq]
   constructor
   ·rintro⟨t,ht,hm⟩
    simp only[Bool.and_eq_true,decide_eq_true_eq,beq_iff_eq] at hm
    obtain⟨m1,m2⟩:=hm
    have hfl:=vO (com:=E.com) (c:=aw c) (t:=old.toNat) (u:=t) (by omega) (by rw[m2];omega)
    have hst:=(uv (com:=E.com) (c:=aw c) (t:=t) (by omega)).2
    rw[m2,w3] at hst
    have ho:dK E.com (aw c) old.toNat=(v.2.2,v.1):=by rw[hfl,←hst]
    rw[ho] at hse
    simp only[hsome] at hse
    have:=hse.2 (by rw[hse.1];rfl)
    rw[this]
   ·intro he
    have hm:aM (X.hist c) old∈X.hist c:=vY (by omega)
    have hu:=hi.uniq hm hin he.symm
    rw[hu,hsome] at hse
    have h3:=hse.2 rfl
    refine⟨old.toNat,by simp;omega,?_⟩
    simp only[Bool.and_eq_true,decide_eq_true_eq,beq_iff_eq]
    refine⟨by omega,?_⟩
    have:=congrArg Prod.fst h3
    exact this.symm
theorem rh {K:List (Int×Wr)} {c:Nat} {p:Int×Wr→Bool} {q:Int×Option Int→Bool} (h:∀ v∈K,v.2.1=aw c→p v=q (v.1,lH v.2.2)):dG (K.filter p) c=(dG K c).filter q:=by
 induction K with
 |nil=>rfl
 |cons v K ih=>
  have ih':=ih (fun u hu=>h u (by simp[hu]))
  have e:∀ (v:Int×Wr) (K:List (Int×Wr)),dG (v::K) c=if v.2.1=aw c then (v.1,lH v.2.2)::dG K c else dG K c:=fun v K=>by
   unfold dG
   rw[List.filterMap_cons]
   by_cases e:v.2.1=aw c
   ·rw[if_pos e,if_pos e]
   ·rw[if_neg e,if_neg e]
  rw[e]
  by_cases hc:v.2.1=aw c
  ·rw[if_pos hc,List.filter_cons,List.filter_cons,←h v (by simp) hc]
   cases p v with
   |true=>simp only[if_true];rw[e,if_pos hc,ih']
   |false=>simpa using ih'
  ·rw[if_neg hc,List.filter_cons]
   cases p v with
   |true=>simp only[if_true];rw[e,if_neg hc,ih']
   |false=>simpa using ih'
theorem g9.swap {X X':ap} {E E':bk} {L:List (Nat×br)} (h:g9 X E L) (h1:X'.src=X.src) (h2:X'.opened=X.opened) (h3:X'.ses=X.ses) (h4:X'.latest=X.latest) (h5:X'.last=X.last) (h6:∀ c,c<60→X'.hist c=X.hist c) (e1:E'.room=E.room) (e2:E'.com=E.com) (e3:E'.opn=E.opn) (e4:E'.opened=E.opened) (e5:keptN X' 60=E'.kept.length):g9 X' E' L:=
 { opn:=by rw[e3];exact h.opn,places:=h.places,lt:=h.lt,ses:=by rw[h3];exact h.ses,free:=by rw[h3];exact h.free,nums:=h.nums,opened:=by rw[h2,e4];exact h.opened,openedPos:=by rw[e4];exact h.openedPos,numLe:=by rw[e4];exact h.numLe,snap:=by rw[e2];exact h.snap,latest:=by rw[h4,e2];exact h.latest,hist:=fun c hc t ht=>by rw[h6 c hc,e2];exact h.hist c hc t (by rw[←e2];exact ht),histS:=fun c hc t ht=>by rw[h6 c hc,e2];exact h.histS c hc t (by rw[←e2];exact ht),histLe:=fun c hc p hp=>by rw[e2];exact h.histLe c hc p (by rw[←h6 c hc];exact hp),last:=fun c hc=>by rw[h5,e2];exact h.last c hc,room:=by unfold ap.room;rw[h1,e1];exact h.room,kept:=e5 }
theorem ms (X:ap) (com:List (List Wr)):keptN (X.full com) 60=rL com:=eJ (X:=⟨((.bool false,0),ByteArray.empty,[]),0,fun _=>.zero,0,fun _=>0,dy com⟩) (Y:=X.full com) rfl 60
theorem dk.sweep {i:Nat} {X:ap} {F:dN} {E:bk} (h:dk X F E) (hg:eO i X):(ch X).1=(dT E).1∧dk (ch X).2 F (dT E).2:=by
 have hold:=h.old
 have hla:=h.latest
 obtain⟨a1,a2,a3⟩:=pS X 8
 have h0:0≤cN X 8:=by
  rcases a3 with e|⟨k,hk,_,e⟩
  ·rw[e];exact hg.latest.1
  ·rw[e];exact (hg.snap k hk).1
 obtain⟨lo,hh⟩:=h.his
 have hlo:lo≤cN X 8:=by
  rcases a3 with e|⟨k,hk,hn,e⟩
  ·rw[e,hla];exact hh.le
  ·obtain⟨S,hS,_,e2⟩:=h.held hk hn
   rw[e,e2]
   exact hh.snap S hS
 have hle:cN X 8≤E.com.length:=by omega
 have hkept:md (X.swept (cN X 8)) (E.swept (cN X 8)):=by
  refine⟨fun c hc=>?_,fun v hv=>h.kept.cell v (List.mem_filter.mp hv).1,fun v hv=>h.kept.was v (List.mem_filter.mp hv).1⟩
  show dx (X.hist c) (cN X 8)=dG (E.kept.filter (gu E (cN X 8))) c
  rw[rh (q:=jQ (X.hist c) (cN X 8)) (fun v hv hvc=>Aw h hh hlo h0 hle hc (hg.inc c) hv hvc),←h.kept.hist c hc]
  rfl
 refine⟨?_,?_⟩
 ·unfold ch dT
  rw[h.kept.len,hkept.len,hold]
 ·show dk (X.swept (cN X 8)) F (E.swept (jU E))
  rw[←hold]
  refine⟨?_,⟨cN X 8,hle,fun S hS=>?_,fun c hc t h1 h2=>?_⟩,hkept,h.fire⟩
  ·obtain⟨L,hs⟩:=h.sim
   exact⟨L,hs⟩
  ·obtain⟨k,hk,e1,e2⟩:=h.place hS
   rw[←e2]
   exact a2 k hk (by rw[e1];have:=(h.pos hS).1;omega)
  ·exact (wC (hg.inc c) h1).trans (hh.seen c hc t (by omega) h2)
end Go.Proofs.YthlhbjnkohinmaaGreat
