import Derived.Test.YthlhbjnkohinmaaGreatP09
import Derived.Test.YthlhbjnkohinmaaGreatP26
import Derived.Test.YthlhbjnkohinmaaGreatP24
namespace Go.Proofs.YthlhbjnkohinmaaGreat
set_option maxRecDepth 100000
set_option maxHeartbeats 8000000
open Go.RowKit
def cP (wr:List Wr)(c:Nat):Option Wr:=(bc (ax c) wr).map fun k=>wr.getD k (ByteArray.empty,0)
def cE (wr:List Wr)(n:Nat):List Wr:=(List.range n).filterMap (cP wr)
def aQ (wr:List Wr):List Wr:=cE wr 60
def d9 (E:bm)(S:br):Bool:=(aQ S.wr).any fun p=>decide ((dK E.com p.1 E.com.length).2>S.snap)
def bm.commit (E:bm)(l:List Wr):bm:={ E with com:=E.com++[l],kept:=E.kept++l.map (fun p=>((E.com.length:Int)+1,p)) }
def kM (E:bm)(n:Int):(Int×Int)×bm:=match du E.opn n with
 |none=>((0,6),E)
 |some S=>if d9 E S then ((0,10),dF E n) else if (aQ S.wr).isEmpty then ((0,0),dF E n) else (((E.com.length:Int)+1,0),dF (E.commit (aQ S.wr)) n)
theorem j9 (c:ByteArray)(p:Wr):∀ l:List Wr,bc c (l++[p])=if p.1=c then some l.length else bc c l
 |[]=>by simp[bc]
 |q::l=>by
  simp only[List.cons_append,bc,j9 c p l]
  by_cases h:p.1=c
  ·simp[h]
  ·simp[h]
def lH (v:Int):Option Int:=if v<0 then none else some v
def bQ (l:List Wr)(c:ByteArray):PW:=(bc c l).map fun k=>lH (l.getD k (ByteArray.empty,0)).2
theorem lT (l:List Wr)(p:Wr)(c:ByteArray):bQ (l++[p]) c=if p.1=c then some (lH p.2) else bQ l c:=by
 unfold bQ
 rw[j9]
 by_cases h:p.1=c
 ·simp[h,List.getD]
 ·simp only[h,if_false]
  cases h1:bc c l with
  |none=>rfl
  |some k=>
   have:=fP h1
   simp[List.getD,List.getElem?_append_left this]
theorem ms (k:Nat):(ax k).data=#[UInt8.ofNat (97+(k:Int) / 10).toNat,UInt8.ofNat (48+(k:Int) % 10).toNat]:=rfl
theorem gQ {a b:Nat}(ha:a<60)(hb:b<60)(h:ax a=ax b):a=b:=by
 have h1:(ax a).data=(ax b).data:=by rw[h]
 rw[ms,ms] at h1
 simp only[Array.mk.injEq,List.cons.injEq,and_true] at h1
 obtain⟨h2,h3⟩:=h1
 have h4:=congrArg UInt8.toNat h2
 have h5:=congrArg UInt8.toNat h3
 simp only[UInt8.toNat_ofNat'] at h4 h5
 omega
theorem uE {s:ByteArray}{i:Nat}(h:i<s.size):UInt8.ofNat (bt s i).toNat=s[i]:=by
 unfold bt
 rw[dif_pos h]
 simp
theorem pR {s:ByteArray}(h0:aR (bt s 0)=true)(h1:bM (bt s 1)=true):dL s<60∧(97:Int)+(dL s:Int) / 10=bt s 0∧(48:Int)+(dL s:Int) % 10=bt s 1:=by
 simp only[aR,bM,decide_eq_true_eq] at h0 h1
 unfold dL
 omega
theorem tV {s:ByteArray}(hs:2≤s.size)(h0:aR (bt s 0)=true)(h1:bM (bt s 1)=true):s.extract 0 2=ax (dL s):=by
 obtain⟨_,h2,h3⟩:=pR h0 h1
 apply ByteArray.ext
 rw[ms,h2,h3,uE (by omega),uE (by omega)]
 rw[ByteArray.data_extract]
 apply Array.ext
 ·simp only[Array.size_extract]
  have:s.data.size=s.size:=rfl
  simp;omega
 ·intro i hi1 hi2
  simp only[Array.getElem_extract,Nat.zero_add]
  have hi3:i<2:=by simpa using hi2
  match i,hi3 with
  |0,_=>rfl
  |1,_=>rfl
theorem uu {s:ByteArray}(h:s.size=2):s.extract 0 2=s:=by
 apply ByteArray.ext
 rw[ByteArray.data_extract]
 apply Array.ext
 ·have:s.data.size=s.size:=rfl
  simp;omega
 ·intro i hi1 hi2
  simp
theorem vV (c:Nat)(v:Int):cq c v=ax c++strOfNums [48+v]:=by
 apply ByteArray.ext
 rw[ByteArray.data_append]
 rfl
structure dd (P:aJ)(S:br):Prop where
 num:P.num=S.num
 pos:1≤S.num
 snap:P.snap=S.snap
 wr:∀ c,c<60→P.wr c=bQ S.wr (ax c)
 made:P.made=S.wr.length
 tm:∀ c,c<60→∀ k,bc (ax c) S.wr=some k→P.tm c=S.snap+((k:Int)+1)
 fired:S.fired=[]
 mks:P.mks=none
structure ic (X:ap)(E:bm)(L:List (Nat×br)):Prop where
 opn:E.opn=L.map (·.2)
 places:(L.map (·.1)).Nodup
 lt:∀ q∈L,q.1<8
 ses:∀ q∈L,dd (X.ses q.1) q.2
 free:∀ k,k<8→(∀ q∈L,q.1≠k)→(X.ses k).num=0
 nums:(L.map (·.2.num)).Nodup
 opened:X.opened=E.opened
 openedPos:0≤E.opened
 numLe:∀ q∈L,q.2.num≤E.opened
 snap:∀ q∈L,0≤q.2.snap∧q.2.snap≤E.com.length
 latest:X.latest=E.com.length
 hist:∀ c,c<60→∀ t:Nat,t≤E.com.length→i7 (X.hist c) t=lH (dK E.com (ax c) t).1
 histS:∀ c,c<60→∀ t:Nat,t≤E.com.length→(aN (X.hist c) t).1=(dK E.com (ax c) t).2
 histLe:∀ c,c<60→∀ p∈X.hist c,p.1≤E.com.length
 last:∀ c,c<60→X.last c=(dK E.com (ax c) E.com.length).2
 room:X.room=E.room
 kept:keptN X 60=E.kept.length
theorem ic.len {X:ap}{E:bm}{L:List (Nat×br)}(h:ic X E L):E.opn.length≤8:=by
 have h1:=eE (m:=List.range 8) h.places (fun x hx=>by
  obtain⟨q,hq,rfl⟩:=List.mem_map.mp hx
  simpa using h.lt q hq)
 rw[h.opn]
 simpa using h1
theorem ic.at {X:ap}{E:bm}{L:List (Nat×br)}(h:ic X E L){i:Nat}(hi:i<E.opn.length):∃ hl:i<L.length,E.opn[i]=L[i].2:=by
 have hl:i<L.length:=by
  have:=h.opn
  rw[this] at hi
  simpa using hi
 refine⟨hl,?_⟩
 have h1:E.opn[i]?=(L.map (·.2))[i]?:=by rw[h.opn]
 rw[List.getElem?_eq_getElem hi] at h1
 simpa [hl] using h1
theorem ic.place {X:ap}{E:bm}{L:List (Nat×br)}(h:ic X E L){q:Nat×br}(hq:q∈L):aM X q.2.num=some q.1:=by
 have hs:=h.ses q hq
 have hp:=hs.pos
 unfold aM
 rw[if_neg (by omega)]
 cases hf:be X q.2.num with
 |none=>exact absurd hs.num (kU hf q.1 (h.lt q hq))
 |some j=>
  obtain⟨h1,h2⟩:=bx hf
  by_cases hj:∀ q'∈L,q'.1≠j
  ·have:=h.free j h1 hj
   omega
  ·have hex:∃ q'∈L,q'.1=j:=by
    apply Classical.byContradiction
    intro hc
    exact hj (fun q' hq' e=>hc ⟨q',hq',e⟩)
   obtain⟨q',hq',rfl⟩:=hex
   have h3:=(h.ses q' hq').num
   have:q'=q:=iA h.nums hq' hq (by rw[←h3,h2])
   rw[this]
theorem ic.noPlace {X:ap}{E:bm}{L:List (Nat×br)}(h:ic X E L){n:Int}(hn:∀ q∈L,q.2.num≠n):aM X n=none:=by
 unfold aM
 split
 ·rfl
 ·cases hf:be X n with
  |none=>rfl
  |some j=>
   obtain⟨h1,h2⟩:=bx hf
   by_cases hj:∀ q'∈L,q'.1≠j
   ·have:=h.free j h1 hj
    omega
   ·have hex:∃ q'∈L,q'.1=j:=by
     apply Classical.byContradiction
     intro hc
     exact hj (fun q' hq' e=>hc ⟨q',hq',e⟩)
    obtain⟨q',hq',rfl⟩:=hex
    exact absurd ((h.ses q' hq').num.symm.trans h2) (hn q' hq')
theorem ic.find {X:ap}{E:bm}{L:List (Nat×br)}(h:ic X E L)(n:Int):
  (aM X n=none∧eK E.opn n=none∧du E.opn n=none)∨∃ (i:Nat) (hi:i<L.length) (hi2:i<E.opn.length),E.opn[i]=L[i].2∧L[i].2.num=n∧aM X n=some L[i].1∧eK E.opn n=some i∧du E.opn n=some L[i].2:=by
 cases hi:eK E.opn n with
 |none=>
  have h1:=lB hi
  left
  refine⟨h.noPlace ?_,rfl,iX h1⟩
  intro q hq e
  obtain⟨j,hj,rfl⟩:=List.mem_iff_getElem.mp hq
  have hj2:j<E.opn.length:=by rw[h.opn];simpa using hj
  obtain⟨_,h2⟩:=h.at hj2
  exact h1 j hj2 (by rw[h2];exact e)
 |some i=>
  obtain⟨hk,h1,h2⟩:=iH hi
  obtain⟨hl,h3⟩:=h.at hk
  right
  refine⟨i,hl,hk,h3,by rw[←h3];exact h1,?_,rfl,?_⟩
  ·have:=h.place (List.getElem_mem hl)
   rw[←h3,h1] at this
   exact this
  ·rw[fX hk h1 h2,h3]
theorem ic.open {X:ap}{E:bm}{L:List (Nat×br)}(h:ic X E L):(aZ X).1=(cC E).1∧∃ L',ic (aZ X).2 (cC E).2 L':=by
 unfold aZ cC
 have hlen:E.opn.length=L.length:=by rw[h.opn];simp
 cases hf:be X 0 with
 |none=>
  have h8:8≤E.opn.length:=by
   have h1:=eE (l:=List.range 8) (m:=L.map (·.1)) List.nodup_range (fun k hk=>by
    apply Classical.byContradiction
    intro hc
    have hk8:k<8:=by simpa using hk
    exact kU hf k hk8 (h.free k hk8 (fun q hq e=>hc (List.mem_map.mpr ⟨q,hq,e⟩))))
   rw[hlen]
   simpa using h1
  rw[if_pos h8]
  exact⟨rfl,L,h⟩
 |some k=>
  obtain⟨hk,h0⟩:=bx hf
  have hkL:∀ q∈L,q.1≠k:=by
   rintro q hq rfl
   have h1:=(h.ses q hq).num
   have h2:=(h.ses q hq).pos
   omega
  have h8:¬8≤E.opn.length:=by
   have h1:=eE (l:=k::L.map (·.1)) (m:=List.range 8) (by
    rw[List.nodup_cons]
    refine⟨?_,h.places⟩
    intro hm
    obtain⟨q,hq,e⟩:=List.mem_map.mp hm
    exact hkL q hq e) (fun x hx=>by
    rcases List.mem_cons.mp hx with rfl|hx
    ·simpa using hk
    ·obtain⟨q,hq,rfl⟩:=List.mem_map.mp hx
     simpa using h.lt q hq)
   simp at h1
   omega
  rw[if_neg h8]
  refine⟨by simp[h.opened],L++[(k,⟨E.opened+1,E.com.length,[],[]⟩)],?_⟩
  refine { opn:=by simp[h.opn],places:=?_,lt:=?_,ses:=?_,free:=?_,nums:=?_,opened:=by simp[h.opened],openedPos:=by have:=h.openedPos;show 0≤E.opened+1;omega,numLe:=?_,snap:=?_,latest:=h.latest,hist:=h.hist,histS:=h.histS,histLe:=h.histLe,last:=h.last,room:=h.room,kept:=(eF rfl 60).trans h.kept }
  ·rw[List.map_append,List.nodup_append]
   refine⟨h.places,by simp,?_⟩
   intro a ha b hb
   obtain⟨q,hq,rfl⟩:=List.mem_map.mp ha
   simp at hb
   rw[hb]
   exact hkL q hq
  ·intro q hq
   rcases List.mem_append.mp hq with hq|hq
   ·exact h.lt q hq
   ·simp at hq;subst hq;exact hk
  ·intro q hq
   rcases List.mem_append.mp hq with hq|hq
   ·show dd (cG X.ses k _ q.1) q.2
    rw[bF _ _ _ (hkL q hq)]
    exact h.ses q hq
   ·simp at hq
    subst hq
    show dd (cG X.ses k _ k) _
    rw[aW]
    exact⟨by simp[h.opened,aJ.new],by have:=h.openedPos;simp;omega,h.latest,fun c _=>rfl,rfl,fun c _ k hk=>by simp[bc] at hk,rfl,rfl⟩
  ·intro j hj hjL
   show (cG X.ses k _ j).num=0
   have h1:j≠k:=fun e=>hjL _ (List.mem_append_right _ (List.mem_singleton.mpr rfl)) e.symm
   rw[bF _ _ _ h1]
   exact h.free j hj (fun q hq=>hjL q (List.mem_append_left _ hq))
  ·rw[List.map_append,List.nodup_append]
   refine⟨h.nums,by simp,?_⟩
   intro a ha b hb
   obtain⟨q,hq,rfl⟩:=List.mem_map.mp ha
   simp at hb
   have:=h.numLe q hq
   omega
  ·intro q hq
   show _≤E.opened+1
   rcases List.mem_append.mp hq with hq|hq
   ·have:=h.numLe q hq;omega
   ·simp at hq;subst hq;simp
  ·intro q hq
   show 0≤q.2.snap∧q.2.snap≤(E.com.length:Int)
   rcases List.mem_append.mp hq with hq|hq
   ·exact h.snap q hq
   ·simp at hq;subst hq;simp
theorem ic.write {X:ap}{E:bm}{L:List (Nat×br)}(h:ic X E L){i:Nat}(hi:i<L.length)(c:Nat)(hc:c<60)(p:Wr)(v:Option Int)(hp:p.1=ax c)(hv:lH p.2=v):
  ∃ L',ic (X.setSes L[i].1 ((X.ses L[i].1).put c v)) (jc E i p) L':=by
 refine⟨L.modify i (fun q=>(q.1,q.2.add p)),?_⟩
 have hm1:(L.modify i (fun q=>(q.1,q.2.add p))).map (·.1)=L.map (·.1):=by
  apply List.ext_getElem (by simp)
  intro j h1 h2
  simp[List.getElem_modify]
  split <;> rfl
 have hm2:(L.modify i (fun q=>(q.1,q.2.add p))).map (·.2.num)=L.map (·.2.num):=by
  apply List.ext_getElem (by simp)
  intro j h1 h2
  simp[List.getElem_modify]
  split <;> rfl
 have hmem:∀ q∈L.modify i (fun q=>(q.1,q.2.add p)),(q∈L∧q.1≠L[i].1)∨q=(L[i].1,L[i].2.add p):=by
  intro q hq
  obtain⟨j,hj,rfl⟩:=List.mem_iff_getElem.mp hq
  have hj2:j<L.length:=by simpa using hj
  rw[List.getElem_modify]
  by_cases e:i=j
  ·subst e;right;simp
  ·left
   rw[if_neg e]
   refine⟨List.getElem_mem hj2,?_⟩
   intro he
   have hn:=h.places
   rw[List.nodup_iff_pairwise_ne,List.pairwise_iff_getElem] at hn
   rcases Nat.lt_or_gt_of_ne e with hlt|hlt
   ·exact hn i j (by simpa using hi) (by simpa using hj2) hlt (by simpa using he.symm)
   ·exact hn j i (by simpa using hj2) (by simpa using hi) hlt (by simpa using he)
 refine { opn:=?_,places:=by rw[hm1];exact h.places,lt:=?_,ses:=?_,free:=?_,nums:=by rw[hm2];exact h.nums,opened:=h.opened,openedPos:=h.openedPos,numLe:=?_,snap:=?_,latest:=h.latest,hist:=h.hist,histS:=h.histS,histLe:=h.histLe,last:=h.last,room:=h.room,kept:=(eF rfl 60).trans h.kept }
 ·show E.opn.modify i _=_
  apply List.ext_getElem
  ·simp[h.opn]
  intro j h1 h2
  have hj:j<E.opn.length:=by simpa using h1
  obtain⟨hl,hat⟩:=h.at hj
  simp only[List.getElem_modify,List.getElem_map,hat]
  split <;> rfl
 ·intro q hq
  rcases hmem q hq with ⟨h1,_⟩|rfl
  ·exact h.lt q h1
  ·exact h.lt L[i] (List.getElem_mem hi)
 ·intro q hq
  rcases hmem q hq with ⟨h1,h2⟩|rfl
  ·show dd (cG X.ses _ _ q.1) q.2
   rw[bF _ _ _ h2]
   exact h.ses q h1
  ·show dd (cG X.ses _ _ L[i].1) (L[i].2.add p)
   rw[aW]
   have hs:=h.ses _ (List.getElem_mem hi)
   refine⟨hs.num,hs.pos,hs.snap,?_,?_,?_,hs.fired,hs.mks⟩
   rotate_left
   ·show (X.ses L[i].1).made+1=((L[i].2.wr++[p]).length:Nat)
    rw[hs.made]
    simp
   ·intro c' hc' k hk
    show cG (X.ses L[i].1).tm c ((X.ses L[i].1).snap+((X.ses L[i].1).made+1)) c'=L[i].2.snap+((k:Int)+1)
    have hk':bc (ax c') (L[i].2.wr++[p])=some k:=hk
    rw[j9] at hk'
    by_cases e:c'=c
    ·subst e
     rw[if_pos hp] at hk'
     cases hk'
     rw[aW,hs.made,hs.snap]
    ·rw[if_neg (by rw[hp];exact fun he=>e (gQ hc' hc he.symm))] at hk'
     rw[bF _ _ _ e]
     exact hs.tm c' hc' k hk'
   intro c' hc'
   show cG (X.ses L[i].1).wr c (some v) c'=bQ (L[i].2.wr++[p]) (ax c')
   rw[lT]
   by_cases e:c'=c
   ·subst e
    rw[aW,if_pos hp,hv]
   ·rw[bF _ _ _ e,if_neg (by rw[hp];exact fun he=>e (gQ hc' hc he.symm))]
    exact hs.wr c' hc'
 ·intro j hj hjL
  show (cG X.ses _ _ j).num=0
  by_cases e:j=L[i].1
  ·subst e
   have:(L[i].1,L[i].2.add p)∈L.modify i (fun q=>(q.1,q.2.add p)):=by
    apply List.mem_iff_getElem.mpr
    exact⟨i,by simpa using hi,by simp⟩
   exact absurd rfl (hjL (L[i].1,L[i].2.add p) this)
  ·rw[bF _ _ _ e]
   apply h.free j hj
   intro q hq he
   have:q.1∈(L.modify i (fun q=>(q.1,q.2.add p))).map (·.1):=by rw[hm1];exact List.mem_map.mpr ⟨q,hq,rfl⟩
   obtain⟨q',hq',e'⟩:=List.mem_map.mp this
   exact hjL q' hq' (e'.trans he)
 ·intro q hq
  rcases hmem q hq with ⟨h1,_⟩|rfl
  ·exact h.numLe q h1
  ·exact h.numLe L[i] (List.getElem_mem hi)
 ·intro q hq
  rcases hmem q hq with ⟨h1,_⟩|rfl
  ·exact h.snap q h1
  ·exact h.snap L[i] (List.getElem_mem hi)
theorem ic.put {X:ap}{E:bm}{L:List (Nat×br)}(h:ic X E L)(n:Int)(s:ByteArray):(cg X n s).1=(fD E n s).1∧∃ L',ic (cg X n s).2 (fD E n s).2 L':=by
 unfold cg fD
 rcases h.find n with ⟨h1,h2,_⟩|⟨i,hi,hi2,_,_,h1,h2,_⟩
 ·rw[h1,h2];exact⟨rfl,L,h⟩
 ·rw[h1,h2]
  cases hf:eQ s with
  |false=>exact⟨rfl,L,h⟩
  |true=>
   simp only[eQ,Bool.and_eq_true,beq_iff_eq] at hf
   obtain⟨⟨⟨f1,f2⟩,f3⟩,f4⟩:=hf
   refine⟨rfl,?_⟩
   refine h.write hi (dL s) (pR f2 f3).1 _ _ (tV (by omega) f2 f3) ?_
   simp only[bM,decide_eq_true_eq] at f4
   show lH (bt s 2 - 48)=_
   unfold lH
   rw[if_neg (by omega)]
theorem ic.clear {X:ap}{E:bm}{L:List (Nat×br)}(h:ic X E L)(n:Int)(s:ByteArray):(aX X n s).1=(cS E n s).1∧∃ L',ic (aX X n s).2 (cS E n s).2 L':=by
 unfold aX cS
 rcases h.find n with ⟨h1,h2,_⟩|⟨i,hi,hi2,_,_,h1,h2,_⟩
 ·rw[h1,h2];exact⟨rfl,L,h⟩
 ·rw[h1,h2]
  cases hf:eC s with
  |false=>exact⟨rfl,L,h⟩
  |true=>
   simp only[eC,Bool.and_eq_true,beq_iff_eq] at hf
   obtain⟨⟨f1,f2⟩,f3⟩:=hf
   refine⟨rfl,?_⟩
   have:=tV (by omega) f2 f3
   rw[uu f1] at this
   exact h.write hi (dL s) (pR f2 f3).1 (s,-1) _ this rfl
theorem ic.seen {X:ap}{E:bm}{L:List (Nat×br)}(h:ic X E L){q:Nat×br}(hq:q∈L){c:Nat}(hc:c<60):jh X q.1 c=lH (dq E.com q.2 (ax c)).1:=by
 have hs:=h.ses q hq
 have hsn:=h.snap q hq
 unfold jh dq
 rw[hs.wr c hc]
 unfold bQ
 cases h1:bc (ax c) q.2.wr with
 |some k=>rfl
 |none=>
  simp only[Option.map_none]
  have:=h.hist c hc q.2.snap.toNat (by omega)
  rw[hs.snap]
  rw[←this]
  congr 1
  omega
theorem ic.view {X:ap}{E:bm}{L:List (Nat×br)}(h:ic X E L)(n:Int):fL X n=match du E.opn n with|some S=>(ce (cF E.com S 60),0)|none=>(ByteArray.empty,6):=by
 unfold fL
 rcases h.find n with ⟨h1,_,h3⟩|⟨i,hi,hi2,_,_,h1,_,h3⟩
 ·rw[h1,h3]
 ·rw[h1,h3]
  show (oF X L[i].1,(0:Int))=(ce (cF E.com L[i].2 60),0)
  congr 1
  unfold oF cF
  congr 1
  apply dG
  intro c hc
  rw[h.seen (List.getElem_mem hi) (by simpa using hc)]
  unfold lH j5
  by_cases hv:(dq E.com L[i].2 (ax c)).1<0
  ·rw[if_pos hv,if_neg (by omega)];rfl
  ·rw[if_neg hv,if_pos (by omega)]
   simp[vV]
theorem ic.drop {X:ap}{E:bm}{L:List (Nat×br)}(h:ic X E L){i:Nat}(hi:i<L.length){n:Int}(hn:L[i].2.num=n):ic (X.setSes L[i].1 .zero) (dF E n) (L.filter fun q=>q.2.num != n):=by
 have hin:∀ q∈L.filter (fun q=>q.2.num != n),q∈L∧q.1≠L[i].1:=by
  intro q hq
  obtain⟨h1,h2⟩:=List.mem_filter.mp hq
  refine⟨h1,fun e=>?_⟩
  have:=iA h.places h1 (List.getElem_mem hi) e
  rw[this] at h2
  simp[hn] at h2
 refine { opn:=?_,places:=h.places.sublist (List.filter_sublist.map _),lt:=fun q hq=>h.lt q (hin q hq).1,ses:=?_,free:=?_,nums:=h.nums.sublist (List.filter_sublist.map _),opened:=h.opened,openedPos:=h.openedPos,numLe:=fun q hq=>h.numLe q (hin q hq).1,snap:=fun q hq=>h.snap q (hin q hq).1,latest:=h.latest,hist:=h.hist,histS:=h.histS,histLe:=h.histLe,last:=h.last,room:=h.room,kept:=(eF rfl 60).trans h.kept }
 ·show E.opn.filter _=_
  rw[h.opn,List.filter_map]
  rfl
 ·intro q hq
  obtain⟨h1,h2⟩:=hin q hq
  show dd (cG X.ses _ _ q.1) q.2
  rw[bF _ _ _ h2]
  exact h.ses q h1
 ·intro j hj hjL
  show (cG X.ses _ _ j).num=0
  by_cases e:j=L[i].1
  ·subst e;rw[aW];rfl
  ·rw[bF _ _ _ e]
   apply h.free j hj
   rintro q hq rfl
   refine hjL q (List.mem_filter.mpr ⟨hq,?_⟩) rfl
   simp only[bne_iff_ne,ne_eq]
   intro hqn
   exact e (congrArg (·.1) (iA h.nums hq (List.getElem_mem hi) (hqn.trans hn.symm)))
theorem ic.abort {X:ap}{E:bm}{L:List (Nat×br)}(h:ic X E L)(n:Int):(aY X n).1=(cR E n).1∧∃ L',ic (aY X n).2 (cR E n).2 L':=by
 unfold aY cR
 rcases h.find n with ⟨h1,h2,_⟩|⟨i,hi,hi2,_,hn,h1,h2,_⟩
 ·rw[h1,h2];exact⟨rfl,L,h⟩
 ·rw[h1,h2];exact⟨rfl,_,h.drop hi hn⟩
theorem ny {α:Type}(l:List α)(x d:α){t:Nat}(h:t<l.length):(l++[x]).getD t d=l.getD t d:=by
 simp[List.getD,List.getElem?_append_left h]
theorem jC (com:List (List Wr))(l:List Wr)(c:ByteArray):∀ t,t≤com.length→dK (com++[l]) c t=dK com c t
 |0,_=>rfl
 |t+1,h=>by
  unfold dK
  rw[ny _ _ _ (by omega),jC com l c t (by omega)]
theorem mR (com:List (List Wr))(l:List Wr)(c:ByteArray):dK (com++[l]) c (com.length+1)=match bc c l with|some k=>((l.getD k (ByteArray.empty,0)).2,(com.length:Int)+1)|none=>dK com c com.length:=by
 rw[dK]
 have:(com++[l]).getD com.length []=l:=by simp[List.getD]
 rw[this,jC com l c _ (Nat.le_refl _)]
 cases bc c l <;> rfl
theorem km (wr:List Wr)(n:Nat):cE wr (n+1)=cE wr n++(cP wr n).toList:=by
 unfold cE
 rw[List.range_succ,List.filterMap_append]
 cases h:cP wr n <;> simp[h]
theorem pq {c:ByteArray}:∀ {l:List Wr} {k:Nat},bc c l=some k→(l.getD k (ByteArray.empty,0)).1=c
 |p::l,k,h=>by
  unfold bc at h
  cases h1:bc c l with
  |some j=>
   rw[h1] at h
   simp at h
   subst h
   have:=pq h1
   simpa [List.getD] using this
  |none=>
   rw[h1] at h
   simp at h
   obtain⟨h2,rfl⟩:=h
   simpa [List.getD] using h2
theorem gX {wr:List Wr}{n:Nat}{p:Wr}(h:cP wr n=some p):p.1=ax n:=by
 unfold cP at h
 cases h1:bc (ax n) wr with
 |none=>rw[h1] at h;cases h
 |some k=>
  rw[h1] at h
  simp only[Option.map_some,Option.some.injEq] at h
  rw[←h]
  exact pq h1
theorem lR {wr:List Wr}{c:Nat}(hc:c<60):∀ n,n≤60→bQ (cE wr n) (ax c)=if c<n then bQ wr (ax c) else none
 |0,_=>by simp[cE,bQ,bc]
 |n+1,hn=>by
  rw[km]
  have ih:=lR (wr:=wr) hc n (by omega)
  cases h:cP wr n with
  |none=>
   simp only[Option.toList_none,List.append_nil]
   rw[ih]
   by_cases e:c<n
   ·rw[if_pos e,if_pos (by omega)]
   ·rw[if_neg e]
    by_cases e2:c<n+1
    ·have:c=n:=by omega
     subst this
     rw[if_pos e2]
     unfold cP at h
     unfold bQ
     simp only[Option.map_eq_none_iff] at h
     rw[h];rfl
    ·rw[if_neg e2]
  |some p=>
   have hp:=gX h
   simp only[Option.toList_some]
   rw[lT,ih,hp]
   by_cases e:c=n
   ·subst e
    rw[if_pos rfl,if_pos (by omega)]
    unfold cP at h
    unfold bQ
    cases h1:bc (ax c) wr with
    |none=>rw[h1] at h;cases h
    |some k=>
     rw[h1] at h
     simp only[Option.map_some,Option.some.injEq] at h
     simp only[Option.map_some]
     rw[h]
   ·rw[if_neg (fun he=>e (gQ (by omega) hc he).symm)]
    by_cases e2:c<n
    ·rw[if_pos e2,if_pos (by omega)]
    ·rw[if_neg e2,if_neg (by omega)]
theorem eH {wr:List Wr}{c:Nat}(hc:c<60):bQ (aQ wr) (ax c)=bQ wr (ax c):=by
 have:=lR (wr:=wr) hc 60 (Nat.le_refl _)
 rw[if_pos hc] at this
 exact this
theorem gw {l:List Wr}{c:ByteArray}:(bQ l c).isSome=(bc c l).isSome:=by simp[bQ]
theorem tJ {P:aJ}{S:br}(h:dd P S):kE P=!(aQ S.wr).isEmpty:=by
 rw[Bool.eq_iff_iff]
 simp only[kE,List.any_eq_true,List.mem_range,Bool.not_eq_true',List.isEmpty_eq_false_iff,ne_eq]
 constructor
 ·rintro⟨c,hc,hs⟩ he
  rw[h.wr c hc,←eH hc,he] at hs
  simp[bQ,bc] at hs
 ·intro hne
  apply Classical.byContradiction
  intro hc
  apply hne
  unfold aQ cE
  rw[List.filterMap_eq_nil_iff]
  intro c hcm
  have hc60:c<60:=by simpa using hcm
  unfold cP
  cases h1:bc (ax c) S.wr with
  |none=>rfl
  |some k=>
   exfalso
   apply hc
   exact⟨c,hc60,by rw[h.wr c hc60,gw,h1];rfl⟩
theorem ic.clash {X:ap}{E:bm}{L:List (Nat×br)}(h:ic X E L){q:Nat×br}(hq:q∈L):clash X (X.ses q.1)=d9 E q.2:=by
 have hs:=h.ses q hq
 rw[Bool.eq_iff_iff]
 simp only[Go.Proofs.YthlhbjnkohinmaaGreat.clash,d9,List.any_eq_true,List.mem_range,Bool.and_eq_true,decide_eq_true_eq]
 constructor
 ·rintro⟨c,hc,hw,hl⟩
  rw[hs.wr c hc,gw] at hw
  cases h1:bc (ax c) q.2.wr with
  |none=>rw[h1] at hw;cases hw
  |some k=>
   refine⟨q.2.wr.getD k (ByteArray.empty,0),?_,?_⟩
   ·unfold aQ cE
    rw[List.mem_filterMap]
    exact⟨c,by simpa using hc,by unfold cP;rw[h1];rfl⟩
   ·rw[pq h1,←h.last c hc,←hs.snap]
    exact hl
 ·rintro⟨p,hp,hl⟩
  unfold aQ cE at hp
  rw[List.mem_filterMap] at hp
  obtain⟨c,hc,hn⟩:=hp
  have hc60:c<60:=by simpa using hc
  refine⟨c,hc60,?_,?_⟩
  ·rw[hs.wr c hc60,gw]
   unfold cP at hn
   cases h1:bc (ax c) q.2.wr with
   |none=>rw[h1] at hn;cases hn
   |some k=>rfl
  ·rw[gX hn,←h.last c hc60,←hs.snap] at hl
   exact hl
theorem oN (X:ap)(P:aJ):∀ n,keptN (X.commit P) n=keptN X n+cu P n
 |0=>rfl
 |n+1=>by
  unfold keptN cu
  rw[oN X P n]
  have:((X.commit P).hist n).length=(X.hist n).length+(if (P.wr n).isSome then 1 else 0):=by
   show (match P.wr n with|some v=>X.hist n++[(X.latest+1,v)]|none=>X.hist n).length=_
   cases P.wr n <;> simp
  omega
theorem kw {P:aJ}{S:br}(hs:dd P S):∀ n,n≤60→cu P n=(cE S.wr n).length
 |0,_=>rfl
 |n+1,hn=>by
  unfold cu cE
  rw[kw hs n (by omega),List.range_succ,List.filterMap_append,List.length_append,hs.wr n (by omega),gw]
  have e:(List.filterMap (cP S.wr) [n]).length=if (bc (ax n) S.wr).isSome then 1 else 0:=by
   simp only[List.filterMap_cons,List.filterMap_nil]
   unfold cP
   cases bc (ax n) S.wr <;> rfl
  rw[e]
  rfl
theorem ic.commits {X:ap}{E:bm}{L:List (Nat×br)}(h:ic X E L){P:aJ}{S:br}(hs:dd P S):ic (X.commit P) (E.commit (aQ S.wr)) L:=by
 have hcl:(E.commit (aQ S.wr)).com.length=E.com.length+1:=by simp[bm.commit]
 refine { opn:=h.opn,places:=h.places,lt:=h.lt,ses:=h.ses,free:=h.free,nums:=h.nums,opened:=h.opened,openedPos:=h.openedPos,numLe:=h.numLe,snap:=?_,latest:=?_,hist:=?_,histS:=?_,histLe:=?_,last:=?_,room:=h.room,kept:=by rw[oN,kw hs 60 (Nat.le_refl _),h.kept];simp[bm.commit,aQ] }
 ·intro q hq
  have:=h.snap q hq
  rw[hcl]
  omega
 ·show X.latest+1=_
  rw[hcl,h.latest]
  omega
 ·intro c hc t ht
  rw[hcl] at ht
  show i7 (match P.wr c with|some v=>X.hist c++[(X.latest+1,v)]|none=>X.hist c) t=lH (dK (E.com++[aQ S.wr]) (ax c) t).1
  have hw:=hs.wr c hc
  rw[←eH hc] at hw
  by_cases e:t=E.com.length+1
  ·subst e
   rw[mR,hw]
   unfold bQ
   cases h1:bc (ax c) (aQ S.wr) with
   |some k=>
    simp only[Option.map_some]
    rw[ox,h.latest,if_pos (by omega)]
   |none=>
    simp only[Option.map_none]
    rw[←h.hist c hc E.com.length (Nat.le_refl _)]
    unfold i7
    have hle:=h.histLe c hc
    have hfind:∀ l:List (Int×Option Int),(∀ p∈l,p.1≤E.com.length)→l.find? (fun p=>decide (p.1≤((E.com.length+1:Nat):Int)))=l.find? (fun p=>decide (p.1≤(E.com.length:Int))):=by
     intro l hl
     cases l with
     |nil=>rfl
     |cons a r=>
      have:=hl a (by simp)
      rw[List.find?_cons,List.find?_cons]
      rw[decide_eq_true (by omega),decide_eq_true (by omega)]
    rw[hfind _ (fun p hp=>hle p (by simpa using hp))]
  ·rw[jC _ _ _ _ (by omega),←h.hist c hc t (by omega)]
   cases P.wr c with
   |none=>rfl
   |some v=>
    rw[ox,if_neg]
    rw[h.latest]
    omega
 ·intro c hc t ht
  rw[hcl] at ht
  show (aN (match P.wr c with|some v=>X.hist c++[(X.latest+1,v)]|none=>X.hist c) t).1=(dK (E.com++[aQ S.wr]) (ax c) t).2
  have hw:=hs.wr c hc
  rw[←eH hc] at hw
  by_cases e:t=E.com.length+1
  ·subst e
   rw[mR,hw]
   unfold bQ
   cases h1:bc (ax c) (aQ S.wr) with
   |some k=>
    simp only[Option.map_some]
    rw[eJ,h.latest,if_pos (by omega)]
   |none=>
    simp only[Option.map_none]
    rw[←h.histS c hc E.com.length (Nat.le_refl _)]
    unfold aN
    have hle:=h.histLe c hc
    have hfind:∀ l:List (Int×Option Int),(∀ p∈l,p.1≤E.com.length)→l.find? (fun p=>decide (p.1≤((E.com.length+1:Nat):Int)))=l.find? (fun p=>decide (p.1≤(E.com.length:Int))):=by
     intro l hl
     cases l with
     |nil=>rfl
     |cons a r=>
      have:=hl a (by simp)
      rw[List.find?_cons,List.find?_cons]
      rw[decide_eq_true (by omega),decide_eq_true (by omega)]
    rw[hfind _ (fun p hp=>hle p (by simpa using hp))]
  ·rw[jC _ _ _ _ (by omega),←h.histS c hc t (by omega)]
   cases P.wr c with
   |none=>rfl
   |some v=>
    rw[eJ,if_neg]
    rw[h.latest]
    omega
 ·intro c hc p hp
  rw[hcl]
  have hp':p∈(match P.wr c with|some v=>X.hist c++[(X.latest+1,v)]|none=>X.hist c):=hp
  cases hw:P.wr c with
  |none=>
   rw[hw] at hp'
   have:=h.histLe c hc p hp'
   omega
  |some v=>
   rw[hw] at hp'
   rcases List.mem_append.mp hp' with hp'|hp'
   ·have:=h.histLe c hc p hp';omega
   ·simp at hp'
    rw[hp',h.latest]
    show (E.com.length:Int)+1≤_
    omega
 ·intro c hc
  rw[hcl]
  show (if (P.wr c).isSome=true then X.latest+1 else X.last c)=(dK (E.com++[aQ S.wr]) (ax c) (E.com.length+1)).2
  rw[mR,hs.wr c hc,←eH hc,gw]
  cases h1:bc (ax c) (aQ S.wr) with
  |some k=>simp[h.latest]
  |none=>simp[h.last c hc]
theorem ic.commit {X:ap}{E:bm}{L:List (Nat×br)}(h:ic X E L)(n:Int):(jQ X n).1=(kM E n).1∧∃ L',ic (jQ X n).2 (kM E n).2 L':=by
 unfold jQ kM
 rcases h.find n with ⟨h1,_,h3⟩|⟨i,hi,hi2,_,hn,h1,_,h3⟩
 ·rw[h1,h3];exact⟨rfl,L,h⟩
 ·rw[h1,h3]
  have hm:=List.getElem_mem hi
  simp only
  rw[tJ (h.ses _ hm),h.clash hm]
  cases he:(aQ L[i].2.wr).isEmpty with
  |true=>
   have hr:d9 E L[i].2=false:=by
    unfold d9
    rw[List.isEmpty_iff.mp he]
    rfl
   rw[hr]
   exact⟨rfl,_,h.drop hi hn⟩
  |false=>
   cases hr:d9 E L[i].2 with
   |true=>exact⟨rfl,_,h.drop hi hn⟩
   |false=>
    refine⟨by simp[h.latest],L.filter (fun q=>q.2.num != n),?_⟩
    exact (h.commits (h.ses _ hm)).drop hi hn
def jF (E:bm):Int:=E.opn.foldl (fun o S=>if S.snap<o then S.snap else o) E.com.length
def gF (E:bm)(old:Int)(v:Int×Wr):Bool:=if v.2.2<0 then decide (v.1>old) else (List.range (E.com.length+1)).any fun t=>decide (old≤(t:Int))&&((dK E.com v.2.1 t).2==v.1)
def bm.swept (E:bm)(old:Int):bm:={ E with kept:=E.kept.filter (gF E old) }
def dX (E:bm):Int×bm:=((E.kept.length:Int) - ((E.swept (jF E)).kept.length:Int),E.swept (jF E))
def ed (E:bm)(m:Nat):bm:=if (E.kept.length:Int)+m>E.room then (dX E).2 else E
theorem xU (y:Nat)(E:bm)(cs:List Value)(fc:List Nat)(a:Option Addr)(cp:Nat)(vs vv:Int)(vc:ByteArray)(old:Nat)(w:World)(hc:w.cell? ⟨y,2,none⟩=some (.slice a E.com.length cp))(hrow:w.ownsRow 0 97 1 (.slice a E.com.length cp) E.com.length cs)(hcom:aB im cs E.com w fc)(hlen:E.com.length≤9223372036854775806)(hl:∀ l∈E.com,l.length≤9223372036854775806)(hold:old≤E.com.length):
  Calls Tryz.prog 72 #[.pointer (some ⟨y,0,none⟩),.agg #[.int .i64 vs,.string vc,.int .i64 vv],.int .i64 old] w fun e w'=>e=.returned (.bool (gF E old (vs,vc,vv)))∧w.grownBy w' none:=by
 have hyl:y<w.heap.size:=World.block_lt_of_cell? w _ hc
 have hyz:y≠w.heap.size:=by omega
 by_cases hneg:vv<0
 ·have HW:Hid (gF E old (vs,vc,vv)=decide (vs>old)):=af (by unfold gF;rw[if_pos hneg])
  clear hc hrow hcom hl
  by_cases hgt:vs>(old:Int)
  ·have HD:Hid (gF E old (vs,vc,vv)=true):=af (by rw[HW.out];exact decide_eq_true hgt)
   go_enter Tryz.func72,Tryz.ntmps72
   go_wp2
   go_ret
   exact⟨by rw[HD.out];rfl,ab (ag _ _) _⟩
  ·have HD:Hid (gF E old (vs,vc,vv)=false):=af (by rw[HW.out];exact decide_eq_false hgt)
   go_enter Tryz.func72,Tryz.ntmps72
   go_wp2
   go_ret
   exact⟨by rw[HD.out];rfl,ab (ag _ _) _⟩
 ·obtain⟨W1,hW1⟩:∃ W1,W1=w.alloc (.cells #[.int .i64 vs,.string vc,.int .i64 vv] 124):=⟨_,rfl⟩
  have hg1:w.grownBy W1 none:=by rw[hW1];exact ab (ag _ _) _
  have HAT:Hid (∀ k:Nat,k≤E.com.length→Calls Tryz.prog 59 #[.pointer (some ⟨y,0,none⟩),.string vc,.int .i64 k] W1 fun e w'=>e=.returned (.tuple #[.int .i64 (dK E.com vc k).1,.int .i64 (dK E.com vc k).2])∧w'=W1):=af (fun k hk=>
   tK y E.com cs fc vc k a _ cp W1 (hg1.cell hc (by simp)) (aq hrow hg1 (fun g hg=>by cases hg)) (aB.framed im.framed _ _ hcom (aK hg1) (by simp)) hk (by omega) (fun l hl'=>by have:=hl l hl';omega))
  have HYES:Hid (∀ k:Nat,old≤k→k≤E.com.length→(dK E.com vc k).2=vs→gF E old (vs,vc,vv)=true):=af (fun k h1 h2 h3=>by
   unfold gF
   rw[if_neg hneg,List.any_eq_true]
   refine⟨k,by simp;omega,?_⟩
   simp only[Bool.and_eq_true,decide_eq_true_eq,beq_iff_eq]
   exact⟨by omega,h3⟩)
  have HNO:Hid ((∀ k:Nat,old≤k→k≤E.com.length→(dK E.com vc k).2≠vs)→gF E old (vs,vc,vv)=false):=af (fun h=>by
   unfold gF
   rw[if_neg hneg,List.any_eq_false]
   intro k hk
   simp only[Bool.and_eq_true,decide_eq_true_eq,beq_iff_eq,not_and]
   intro h1 h2
   exact h k (by omega) (by have:k<E.com.length+1:=by simpa using hk
                            omega) h2)
  have c2:W1.cell? ⟨y,2,none⟩=some (.slice a E.com.length cp):=hg1.cell hc (by simp)
  have HG1:=af hg1
  obtain⟨r,hr⟩:∃ r,r=gF E old (vs,vc,vv):=⟨_,rfl⟩
  rw[←hr] at HYES HNO ⊢
  clear hc hrow hcom hl hg1 hr
  go_enter Tryz.func72,Tryz.ntmps72
  go_wp2_with fail
  have v0:W1.cell? ⟨w.heap.size,0,none⟩=some (.int .i64 vs):=by rw[hW1,World.cell?_alloc_at _ _ _ _ rfl];rfl
  have v1:W1.cell? ⟨w.heap.size,1,none⟩=some (.string vc):=by rw[hW1,World.cell?_alloc_at _ _ _ _ rfl];rfl
  rw[←hW1]
  clear hW1
  go_loop [7] (fun t=>∃ k:Nat,old≤k∧k≤E.com.length+1∧t=.int .i64 k∧∀ j:Nat,old≤j→j<k→(dK E.com vc j).2≠vs) (fun t=>E.com.length+1 - (intOf t).toNat)
  case atStart=>exact⟨old,Nat.le_refl _,by omega,rfl,fun j h1 h2=>by omega⟩
  case round=>
   obtain⟨k,hk,hk2,rfl,hno⟩:=hrel
   have HN:=af hno
   clear hno
   by_cases hlt:k≤E.com.length
   ·have HA:=af (HAT.out k hlt)
    obtain⟨t0,ht0⟩:∃ t0,t0=(dK E.com vc k).2:=⟨_,rfl⟩
    obtain⟨u0,hu0⟩:∃ u0,u0=(dK E.com vc k).1:=⟨_,rfl⟩
    rw[←ht0,←hu0] at HA
    have HT:=af ht0
    clear ht0 hu0
    have hlt':(k:Int)≤(E.com.length:Int):=by omega
    go_wp2_with fail
    go_at_call 59
    refine HA.out.mono ?_
    rintro e w' ⟨rfl,rfl⟩
    by_cases he:t0=vs
    ·have HR:Hid (r=true):=af (HYES.out k hk hlt (by rw[←HT.out];exact he))
     subst he
     go_wp2
     go_ret
     exact⟨by rw[HR.out];rfl,HG1.out⟩
    ·have hb:(t0==vs)=false:=by simpa using he
     have HN2:Hid (∀ j:Nat,old≤j→j<k+1→(dK E.com vc j).2≠vs):=af (fun j h1 h2=>by
      by_cases e:j=k
      ·subst e;rw[←HT.out];exact he
      ·exact HN.out j h1 (by omega))
     go_wp2
     go_round
     case rel=>exact⟨k+1,by omega,by omega,by go_num,HN2.out⟩
     case measure=>simp[intOf];omega
   ·have hlt':¬(k:Int)≤(E.com.length:Int):=by omega
    have HR:Hid (r=false):=af (HNO.out (fun j h1 h2=>HN.out j h1 (by omega)))
    go_wp2
    go_ret
    exact⟨by rw[HR.out];rfl,HG1.out⟩
end Go.Proofs.YthlhbjnkohinmaaGreat
