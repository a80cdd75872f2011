import Derived.Test.YthlhbjnkohinmabGreatP09
import Derived.Test.YthlhbjnkohinmabGreatP26
import Derived.Test.YthlhbjnkohinmabGreatP24
namespace Go.Proofs.YthlhbjnkohinmabGreat
set_option maxRecDepth 100000
set_option maxHeartbeats 8000000
open Go.RowKit
def cQ (wr:List Wr)(c:Nat):Option Wr:=(be (ax c) wr).map fun k=>wr.getD k (ByteArray.empty,0)
def cG (wr:List Wr)(n:Nat):List Wr:=(List.range n).filterMap (cQ wr)
def aQ (wr:List Wr):List Wr:=cG wr 60
def d9 (E:bm)(S:br):Bool:=(aQ S.wr).any fun p=>decide ((dM E.com p.1 E.com.length).2>S.snap)
def bm.commit (E:bm)(l:List Wr):bm:={ E with com:=E.com++[l],kept:=E.kept++l.map (fun p=>((E.com.length:Int)+1,p)) }
def lh (E:bm)(n:Int):(Int×Int)×bm:=match dk E.opn n with
 |none=>((0,6),E)
 |some S=>if d9 E S then ((0,10),dF E n) else if (aQ S.wr).isEmpty then ((0,0),dF E n) else (((E.com.length:Int)+1,0),dF (E.commit (aQ S.wr)) n)
theorem ka (c:ByteArray)(p:Wr):∀ l:List Wr,be c (l++[p])=if p.1=c then some l.length else be c l
 |[]=>by simp[be]
 |q::l=>by
  simp only[List.cons_append,be,ka c p l]
  by_cases h:p.1=c
  ·simp[h]
  ·simp[h]
def lH (v:Int):Option Int:=if v<0 then none else some v
def bR (l:List Wr)(c:ByteArray):PW:=(be c l).map fun k=>lH (l.getD k (ByteArray.empty,0)).2
theorem lX (l:List Wr)(p:Wr)(c:ByteArray):bR (l++[p]) c=if p.1=c then some (lH p.2) else bR l c:=by
 unfold bR
 rw[ka]
 by_cases h:p.1=c
 ·simp[h,List.getD]
 ·simp only[h,if_false]
  cases h1:be c l with
  |none=>rfl
  |some k=>
   have:=fP h1
   simp[List.getD,List.getElem?_append_left this]
theorem mf (k:Nat):(ax k).data=#[UInt8.ofNat (97+(k:Int) / 10).toNat,UInt8.ofNat (48+(k:Int) % 10).toNat]:=rfl
theorem gS {a b:Nat}(ha:a<60)(hb:b<60)(h:ax a=ax b):a=b:=by
 have h1:(ax a).data=(ax b).data:=by rw[h]
 rw[mf,mf] at h1
 simp only[Array.mk.injEq,List.cons.injEq,and_true] at h1
 obtain⟨h2,h3⟩:=h1
 have h4:=congrArg UInt8.toNat h2
 have h5:=congrArg UInt8.toNat h3
 simp only[UInt8.toNat_ofNat'] at h4 h5
 omega
theorem vp {s:ByteArray}{i:Nat}(h:i<s.size):UInt8.ofNat (bt s i).toNat=s[i]:=by
 unfold bt
 rw[dif_pos h]
 simp
theorem qO {s:ByteArray}(h0:aU (bt s 0)=true)(h1:bM (bt s 1)=true):dO s<60∧(97:Int)+(dO s:Int) / 10=bt s 0∧(48:Int)+(dO s:Int) % 10=bt s 1:=by
 simp only[aU,bM,decide_eq_true_eq] at h0 h1
 unfold dO
 omega
theorem uN {s:ByteArray}(hs:2≤s.size)(h0:aU (bt s 0)=true)(h1:bM (bt s 1)=true):s.extract 0 2=ax (dO s):=by
 obtain⟨_,h2,h3⟩:=qO h0 h1
 apply ByteArray.ext
 rw[mf,h2,h3,vp (by omega),vp (by omega)]
 rw[ByteArray.data_extract]
 apply Array.ext
 ·simp only[Array.size_extract]
  have:s.data.size=s.size:=rfl
  simp;omega
 ·intro i hi1 hi2
  simp only[Array.getElem_extract,Nat.zero_add]
  have hi3:i<2:=by simpa using hi2
  match i,hi3 with
  |0,_=>rfl
  |1,_=>rfl
theorem ug {s:ByteArray}(h:s.size=2):s.extract 0 2=s:=by
 apply ByteArray.ext
 rw[ByteArray.data_extract]
 apply Array.ext
 ·have:s.data.size=s.size:=rfl
  simp;omega
 ·intro i hi1 hi2
  simp
theorem up (c:Nat)(v:Int):cz c v=ax c++strOfNums [48+v]:=by
 apply ByteArray.ext
 rw[ByteArray.data_append]
 rfl
structure de (P:aK)(S:br):Prop where
 num:P.num=S.num
 pos:1≤S.num
 snap:P.snap=S.snap
 wr:∀ c,c<60→P.wr c=bR S.wr (ax c)
 made:P.made=S.wr.length
 tm:∀ c,c<60→∀ k,be (ax c) S.wr=some k→P.tm c=S.snap+((k:Int)+1)
 fired:S.fired=[]
 mks:P.mks=none
structure id (X:ap)(E:bm)(L:List (Nat×br)):Prop where
 opn:E.opn=L.map (·.2)
 places:(L.map (·.1)).Nodup
 lt:∀ q∈L,q.1<8
 ses:∀ q∈L,de (X.ses q.1) q.2
 free:∀ k,k<8→(∀ q∈L,q.1≠k)→(X.ses k).num=0
 nums:(L.map (·.2.num)).Nodup
 opened:X.opened=E.opened
 openedPos:0≤E.opened
 numLe:∀ q∈L,q.2.num≤E.opened
 snap:∀ q∈L,0≤q.2.snap∧q.2.snap≤E.com.length
 latest:X.latest=E.com.length
 hist:∀ c,c<60→∀ t:Nat,t≤E.com.length→iX (X.hist c) t=lH (dM E.com (ax c) t).1
 histS:∀ c,c<60→∀ t:Nat,t≤E.com.length→(aN (X.hist c) t).1=(dM E.com (ax c) t).2
 histLe:∀ c,c<60→∀ p∈X.hist c,p.1≤E.com.length
 last:∀ c,c<60→X.last c=(dM E.com (ax c) E.com.length).2
 room:X.room=E.room
 kept:keptN X 60=E.kept.length
theorem id.len {X:ap}{E:bm}{L:List (Nat×br)}(h:id X E L):E.opn.length≤8:=by
 have h1:=eJ (m:=List.range 8) h.places (fun x hx=>by
  obtain⟨q,hq,rfl⟩:=List.mem_map.mp hx
  simpa using h.lt q hq)
 rw[h.opn]
 simpa using h1
theorem id.at {X:ap}{E:bm}{L:List (Nat×br)}(h:id X E L){i:Nat}(hi:i<E.opn.length):∃ hl:i<L.length,E.opn[i]=L[i].2:=by
 have hl:i<L.length:=by
  have:=h.opn
  rw[this] at hi
  simpa using hi
 refine⟨hl,?_⟩
 have h1:E.opn[i]?=(L.map (·.2))[i]?:=by rw[h.opn]
 rw[List.getElem?_eq_getElem hi] at h1
 simpa [hl] using h1
theorem id.place {X:ap}{E:bm}{L:List (Nat×br)}(h:id X E L){q:Nat×br}(hq:q∈L):aM X q.2.num=some q.1:=by
 have hs:=h.ses q hq
 have hp:=hs.pos
 unfold aM
 rw[if_neg (by omega)]
 cases hf:bd X q.2.num with
 |none=>exact absurd hs.num (kT hf q.1 (h.lt q hq))
 |some j=>
  obtain⟨h1,h2⟩:=bu hf
  by_cases hj:∀ q'∈L,q'.1≠j
  ·have:=h.free j h1 hj
   omega
  ·have hex:∃ q'∈L,q'.1=j:=by
    apply Classical.byContradiction
    intro hc
    exact hj (fun q' hq' e=>hc ⟨q',hq',e⟩)
   obtain⟨q',hq',rfl⟩:=hex
   have h3:=(h.ses q' hq').num
   have:q'=q:=iz h.nums hq' hq (by rw[←h3,h2])
   rw[this]
theorem id.noPlace {X:ap}{E:bm}{L:List (Nat×br)}(h:id X E L){n:Int}(hn:∀ q∈L,q.2.num≠n):aM X n=none:=by
 unfold aM
 split
 ·rfl
 ·cases hf:bd X n with
  |none=>rfl
  |some j=>
   obtain⟨h1,h2⟩:=bu hf
   by_cases hj:∀ q'∈L,q'.1≠j
   ·have:=h.free j h1 hj
    omega
   ·have hex:∃ q'∈L,q'.1=j:=by
     apply Classical.byContradiction
     intro hc
     exact hj (fun q' hq' e=>hc ⟨q',hq',e⟩)
    obtain⟨q',hq',rfl⟩:=hex
    exact absurd ((h.ses q' hq').num.symm.trans h2) (hn q' hq')
theorem id.find {X:ap}{E:bm}{L:List (Nat×br)}(h:id X E L)(n:Int):
  (aM X n=none∧eL E.opn n=none∧dk E.opn n=none)∨∃ (i:Nat) (hi:i<L.length) (hi2:i<E.opn.length),E.opn[i]=L[i].2∧L[i].2.num=n∧aM X n=some L[i].1∧eL E.opn n=some i∧dk E.opn n=some L[i].2:=by
 cases hi:eL E.opn n with
 |none=>
  have h1:=lD hi
  left
  refine⟨h.noPlace ?_,rfl,iV h1⟩
  intro q hq e
  obtain⟨j,hj,rfl⟩:=List.mem_iff_getElem.mp hq
  have hj2:j<E.opn.length:=by rw[h.opn];simpa using hj
  obtain⟨_,h2⟩:=h.at hj2
  exact h1 j hj2 (by rw[h2];exact e)
 |some i=>
  obtain⟨hk,h1,h2⟩:=iN hi
  obtain⟨hl,h3⟩:=h.at hk
  right
  refine⟨i,hl,hk,h3,by rw[←h3];exact h1,?_,rfl,?_⟩
  ·have:=h.place (List.getElem_mem hl)
   rw[←h3,h1] at this
   exact this
  ·rw[fZ hk h1 h2,h3]
theorem id.open {X:ap}{E:bm}{L:List (Nat×br)}(h:id X E L):(a8 X).1=(cF E).1∧∃ L',id (a8 X).2 (cF E).2 L':=by
 unfold a8 cF
 have hlen:E.opn.length=L.length:=by rw[h.opn];simp
 cases hf:bd X 0 with
 |none=>
  have h8:8≤E.opn.length:=by
   have h1:=eJ (l:=List.range 8) (m:=L.map (·.1)) List.nodup_range (fun k hk=>by
    apply Classical.byContradiction
    intro hc
    have hk8:k<8:=by simpa using hk
    exact kT hf k hk8 (h.free k hk8 (fun q hq e=>hc (List.mem_map.mpr ⟨q,hq,e⟩))))
   rw[hlen]
   simpa using h1
  rw[if_pos h8]
  exact⟨rfl,L,h⟩
 |some k=>
  obtain⟨hk,h0⟩:=bu hf
  have hkL:∀ q∈L,q.1≠k:=by
   rintro q hq rfl
   have h1:=(h.ses q hq).num
   have h2:=(h.ses q hq).pos
   omega
  have h8:¬8≤E.opn.length:=by
   have h1:=eJ (l:=k::L.map (·.1)) (m:=List.range 8) (by
    rw[List.nodup_cons]
    refine⟨?_,h.places⟩
    intro hm
    obtain⟨q,hq,e⟩:=List.mem_map.mp hm
    exact hkL q hq e) (fun x hx=>by
    rcases List.mem_cons.mp hx with rfl|hx
    ·simpa using hk
    ·obtain⟨q,hq,rfl⟩:=List.mem_map.mp hx
     simpa using h.lt q hq)
   simp at h1
   omega
  rw[if_neg h8]
  refine⟨by simp[h.opened],L++[(k,⟨E.opened+1,E.com.length,[],[]⟩)],?_⟩
  refine { opn:=by simp[h.opn],places:=?_,lt:=?_,ses:=?_,free:=?_,nums:=?_,opened:=by simp[h.opened],openedPos:=by have:=h.openedPos;show 0≤E.opened+1;omega,numLe:=?_,snap:=?_,latest:=h.latest,hist:=h.hist,histS:=h.histS,histLe:=h.histLe,last:=h.last,room:=h.room,kept:=(eH rfl 60).trans h.kept }
  ·rw[List.map_append,List.nodup_append]
   refine⟨h.places,by simp,?_⟩
   intro a ha b hb
   obtain⟨q,hq,rfl⟩:=List.mem_map.mp ha
   simp at hb
   rw[hb]
   exact hkL q hq
  ·intro q hq
   rcases List.mem_append.mp hq with hq|hq
   ·exact h.lt q hq
   ·simp at hq;subst hq;exact hk
  ·intro q hq
   rcases List.mem_append.mp hq with hq|hq
   ·show de (cI X.ses k _ q.1) q.2
    rw[bD _ _ _ (hkL q hq)]
    exact h.ses q hq
   ·simp at hq
    subst hq
    show de (cI X.ses k _ k) _
    rw[aW]
    exact⟨by simp[h.opened,aK.new],by have:=h.openedPos;simp;omega,h.latest,fun c _=>rfl,rfl,fun c _ k hk=>by simp[be] at hk,rfl,rfl⟩
  ·intro j hj hjL
   show (cI X.ses k _ j).num=0
   have h1:j≠k:=fun e=>hjL _ (List.mem_append_right _ (List.mem_singleton.mpr rfl)) e.symm
   rw[bD _ _ _ h1]
   exact h.free j hj (fun q hq=>hjL q (List.mem_append_left _ hq))
  ·rw[List.map_append,List.nodup_append]
   refine⟨h.nums,by simp,?_⟩
   intro a ha b hb
   obtain⟨q,hq,rfl⟩:=List.mem_map.mp ha
   simp at hb
   have:=h.numLe q hq
   omega
  ·intro q hq
   show _≤E.opened+1
   rcases List.mem_append.mp hq with hq|hq
   ·have:=h.numLe q hq;omega
   ·simp at hq;subst hq;simp
  ·intro q hq
   show 0≤q.2.snap∧q.2.snap≤(E.com.length:Int)
   rcases List.mem_append.mp hq with hq|hq
   ·exact h.snap q hq
   ·simp at hq;subst hq;simp
theorem id.write {X:ap}{E:bm}{L:List (Nat×br)}(h:id X E L){i:Nat}(hi:i<L.length)(c:Nat)(hc:c<60)(p:Wr)(v:Option Int)(hp:p.1=ax c)(hv:lH p.2=v):
  ∃ L',id (X.setSes L[i].1 ((X.ses L[i].1).put c v)) (jd E i p) L':=by
 refine⟨L.modify i (fun q=>(q.1,q.2.add p)),?_⟩
 have hm1:(L.modify i (fun q=>(q.1,q.2.add p))).map (·.1)=L.map (·.1):=by
  apply List.ext_getElem (by simp)
  intro j h1 h2
  simp[List.getElem_modify]
  split <;> rfl
 have hm2:(L.modify i (fun q=>(q.1,q.2.add p))).map (·.2.num)=L.map (·.2.num):=by
  apply List.ext_getElem (by simp)
  intro j h1 h2
  simp[List.getElem_modify]
  split <;> rfl
 have hmem:∀ q∈L.modify i (fun q=>(q.1,q.2.add p)),(q∈L∧q.1≠L[i].1)∨q=(L[i].1,L[i].2.add p):=by
  intro q hq
  obtain⟨j,hj,rfl⟩:=List.mem_iff_getElem.mp hq
  have hj2:j<L.length:=by simpa using hj
  rw[List.getElem_modify]
  by_cases e:i=j
  ·subst e;right;simp
  ·left
   rw[if_neg e]
   refine⟨List.getElem_mem hj2,?_⟩
   intro he
   have hn:=h.places
   rw[List.nodup_iff_pairwise_ne,List.pairwise_iff_getElem] at hn
   rcases Nat.lt_or_gt_of_ne e with hlt|hlt
   ·exact hn i j (by simpa using hi) (by simpa using hj2) hlt (by simpa using he.symm)
   ·exact hn j i (by simpa using hj2) (by simpa using hi) hlt (by simpa using he)
 refine { opn:=?_,places:=by rw[hm1];exact h.places,lt:=?_,ses:=?_,free:=?_,nums:=by rw[hm2];exact h.nums,opened:=h.opened,openedPos:=h.openedPos,numLe:=?_,snap:=?_,latest:=h.latest,hist:=h.hist,histS:=h.histS,histLe:=h.histLe,last:=h.last,room:=h.room,kept:=(eH rfl 60).trans h.kept }
 ·show E.opn.modify i _=_
  apply List.ext_getElem
  ·simp[h.opn]
  intro j h1 h2
  have hj:j<E.opn.length:=by simpa using h1
  obtain⟨hl,hat⟩:=h.at hj
  simp only[List.getElem_modify,List.getElem_map,hat]
  split <;> rfl
 ·intro q hq
  rcases hmem q hq with ⟨h1,_⟩|rfl
  ·exact h.lt q h1
  ·exact h.lt L[i] (List.getElem_mem hi)
 ·intro q hq
  rcases hmem q hq with ⟨h1,h2⟩|rfl
  ·show de (cI X.ses _ _ q.1) q.2
   rw[bD _ _ _ h2]
   exact h.ses q h1
  ·show de (cI X.ses _ _ L[i].1) (L[i].2.add p)
   rw[aW]
   have hs:=h.ses _ (List.getElem_mem hi)
   refine⟨hs.num,hs.pos,hs.snap,?_,?_,?_,hs.fired,hs.mks⟩
   rotate_left
   ·show (X.ses L[i].1).made+1=((L[i].2.wr++[p]).length:Nat)
    rw[hs.made]
    simp
   ·intro c' hc' k hk
    show cI (X.ses L[i].1).tm c ((X.ses L[i].1).snap+((X.ses L[i].1).made+1)) c'=L[i].2.snap+((k:Int)+1)
    have hk':be (ax c') (L[i].2.wr++[p])=some k:=hk
    rw[ka] at hk'
    by_cases e:c'=c
    ·subst e
     rw[if_pos hp] at hk'
     cases hk'
     rw[aW,hs.made,hs.snap]
    ·rw[if_neg (by rw[hp];exact fun he=>e (gS hc' hc he.symm))] at hk'
     rw[bD _ _ _ e]
     exact hs.tm c' hc' k hk'
   intro c' hc'
   show cI (X.ses L[i].1).wr c (some v) c'=bR (L[i].2.wr++[p]) (ax c')
   rw[lX]
   by_cases e:c'=c
   ·subst e
    rw[aW,if_pos hp,hv]
   ·rw[bD _ _ _ e,if_neg (by rw[hp];exact fun he=>e (gS hc' hc he.symm))]
    exact hs.wr c' hc'
 ·intro j hj hjL
  show (cI X.ses _ _ j).num=0
  by_cases e:j=L[i].1
  ·subst e
   have:(L[i].1,L[i].2.add p)∈L.modify i (fun q=>(q.1,q.2.add p)):=by
    apply List.mem_iff_getElem.mpr
    exact⟨i,by simpa using hi,by simp⟩
   exact absurd rfl (hjL (L[i].1,L[i].2.add p) this)
  ·rw[bD _ _ _ e]
   apply h.free j hj
   intro q hq he
   have:q.1∈(L.modify i (fun q=>(q.1,q.2.add p))).map (·.1):=by rw[hm1];exact List.mem_map.mpr ⟨q,hq,rfl⟩
   obtain⟨q',hq',e'⟩:=List.mem_map.mp this
   exact hjL q' hq' (e'.trans he)
 ·intro q hq
  rcases hmem q hq with ⟨h1,_⟩|rfl
  ·exact h.numLe q h1
  ·exact h.numLe L[i] (List.getElem_mem hi)
 ·intro q hq
  rcases hmem q hq with ⟨h1,_⟩|rfl
  ·exact h.snap q h1
  ·exact h.snap L[i] (List.getElem_mem hi)
theorem id.put {X:ap}{E:bm}{L:List (Nat×br)}(h:id X E L)(n:Int)(s:ByteArray):(cj X n s).1=(fF E n s).1∧∃ L',id (cj X n s).2 (fF E n s).2 L':=by
 unfold cj fF
 rcases h.find n with ⟨h1,h2,_⟩|⟨i,hi,hi2,_,_,h1,h2,_⟩
 ·rw[h1,h2];exact⟨rfl,L,h⟩
 ·rw[h1,h2]
  cases hf:eU s with
  |false=>exact⟨rfl,L,h⟩
  |true=>
   simp only[eU,Bool.and_eq_true,beq_iff_eq] at hf
   obtain⟨⟨⟨f1,f2⟩,f3⟩,f4⟩:=hf
   refine⟨rfl,?_⟩
   refine h.write hi (dO s) (qO f2 f3).1 _ _ (uN (by omega) f2 f3) ?_
   simp only[bM,decide_eq_true_eq] at f4
   show lH (bt s 2 - 48)=_
   unfold lH
   rw[if_neg (by omega)]
theorem id.clear {X:ap}{E:bm}{L:List (Nat×br)}(h:id X E L)(n:Int)(s:ByteArray):(aX X n s).1=(cT E n s).1∧∃ L',id (aX X n s).2 (cT E n s).2 L':=by
 unfold aX cT
 rcases h.find n with ⟨h1,h2,_⟩|⟨i,hi,hi2,_,_,h1,h2,_⟩
 ·rw[h1,h2];exact⟨rfl,L,h⟩
 ·rw[h1,h2]
  cases hf:eE s with
  |false=>exact⟨rfl,L,h⟩
  |true=>
   simp only[eE,Bool.and_eq_true,beq_iff_eq] at hf
   obtain⟨⟨f1,f2⟩,f3⟩:=hf
   refine⟨rfl,?_⟩
   have:=uN (by omega) f2 f3
   rw[ug f1] at this
   exact h.write hi (dO s) (qO f2 f3).1 (s,-1) _ this rfl
theorem id.seen {X:ap}{E:bm}{L:List (Nat×br)}(h:id X E L){q:Nat×br}(hq:q∈L){c:Nat}(hc:c<60):jk X q.1 c=lH (du E.com q.2 (ax c)).1:=by
 have hs:=h.ses q hq
 have hsn:=h.snap q hq
 unfold jk du
 rw[hs.wr c hc]
 unfold bR
 cases h1:be (ax c) q.2.wr with
 |some k=>rfl
 |none=>
  simp only[Option.map_none]
  have:=h.hist c hc q.2.snap.toNat (by omega)
  rw[hs.snap]
  rw[←this]
  congr 1
  omega
theorem id.view {X:ap}{E:bm}{L:List (Nat×br)}(h:id X E L)(n:Int):e9 X n=match dk E.opn n with|some S=>(ch (cH E.com S 60),0)|none=>(ByteArray.empty,6):=by
 unfold e9
 rcases h.find n with ⟨h1,_,h3⟩|⟨i,hi,hi2,_,_,h1,_,h3⟩
 ·rw[h1,h3]
 ·rw[h1,h3]
  show (oP X L[i].1,(0:Int))=(ch (cH E.com L[i].2 60),0)
  congr 1
  unfold oP cH
  congr 1
  apply dK
  intro c hc
  rw[h.seen (List.getElem_mem hi) (by simpa using hc)]
  unfold lH kr
  by_cases hv:(du E.com L[i].2 (ax c)).1<0
  ·rw[if_pos hv,if_neg (by omega)];rfl
  ·rw[if_neg hv,if_pos (by omega)]
   simp[up]
theorem id.drop {X:ap}{E:bm}{L:List (Nat×br)}(h:id X E L){i:Nat}(hi:i<L.length){n:Int}(hn:L[i].2.num=n):id (X.setSes L[i].1 .zero) (dF E n) (L.filter fun q=>q.2.num != n):=by
 have hin:∀ q∈L.filter (fun q=>q.2.num != n),q∈L∧q.1≠L[i].1:=by
  intro q hq
  obtain⟨h1,h2⟩:=List.mem_filter.mp hq
  refine⟨h1,fun e=>?_⟩
  have:=iz h.places h1 (List.getElem_mem hi) e
  rw[this] at h2
  simp[hn] at h2
 refine { opn:=?_,places:=h.places.sublist (List.filter_sublist.map _),lt:=fun q hq=>h.lt q (hin q hq).1,ses:=?_,free:=?_,nums:=h.nums.sublist (List.filter_sublist.map _),opened:=h.opened,openedPos:=h.openedPos,numLe:=fun q hq=>h.numLe q (hin q hq).1,snap:=fun q hq=>h.snap q (hin q hq).1,latest:=h.latest,hist:=h.hist,histS:=h.histS,histLe:=h.histLe,last:=h.last,room:=h.room,kept:=(eH rfl 60).trans h.kept }
 ·show E.opn.filter _=_
  rw[h.opn,List.filter_map]
  rfl
 ·intro q hq
  obtain⟨h1,h2⟩:=hin q hq
  show de (cI X.ses _ _ q.1) q.2
  rw[bD _ _ _ h2]
  exact h.ses q h1
 ·intro j hj hjL
  show (cI X.ses _ _ j).num=0
  by_cases e:j=L[i].1
  ·subst e;rw[aW];rfl
  ·rw[bD _ _ _ e]
   apply h.free j hj
   rintro q hq rfl
   refine hjL q (List.mem_filter.mpr ⟨hq,?_⟩) rfl
   simp only[bne_iff_ne,ne_eq]
   intro hqn
   exact e (congrArg (·.1) (iz h.nums hq (List.getElem_mem hi) (hqn.trans hn.symm)))
theorem id.abort {X:ap}{E:bm}{L:List (Nat×br)}(h:id X E L)(n:Int):(aY X n).1=(cR E n).1∧∃ L',id (aY X n).2 (cR E n).2 L':=by
 unfold aY cR
 rcases h.find n with ⟨h1,h2,_⟩|⟨i,hi,hi2,_,hn,h1,h2,_⟩
 ·rw[h1,h2];exact⟨rfl,L,h⟩
 ·rw[h1,h2];exact⟨rfl,_,h.drop hi hn⟩
theorem ni {α:Type}(l:List α)(x d:α){t:Nat}(h:t<l.length):(l++[x]).getD t d=l.getD t d:=by
 simp[List.getD,List.getElem?_append_left h]
theorem jB (com:List (List Wr))(l:List Wr)(c:ByteArray):∀ t,t≤com.length→dM (com++[l]) c t=dM com c t
 |0,_=>rfl
 |t+1,h=>by
  unfold dM
  rw[ni _ _ _ (by omega),jB com l c t (by omega)]
theorem mQ (com:List (List Wr))(l:List Wr)(c:ByteArray):dM (com++[l]) c (com.length+1)=match be c l with|some k=>((l.getD k (ByteArray.empty,0)).2,(com.length:Int)+1)|none=>dM com c com.length:=by
 rw[dM]
 have:(com++[l]).getD com.length []=l:=by simp[List.getD]
 rw[this,jB com l c _ (Nat.le_refl _)]
 cases be c l <;> rfl
theorem jZ (wr:List Wr)(n:Nat):cG wr (n+1)=cG wr n++(cQ wr n).toList:=by
 unfold cG
 rw[List.range_succ,List.filterMap_append]
 cases h:cQ wr n <;> simp[h]
theorem qu {c:ByteArray}:∀ {l:List Wr} {k:Nat},be c l=some k→(l.getD k (ByteArray.empty,0)).1=c
 |p::l,k,h=>by
  unfold be at h
  cases h1:be c l with
  |some j=>
   rw[h1] at h
   simp at h
   subst h
   have:=qu h1
   simpa [List.getD] using this
  |none=>
   rw[h1] at h
   simp at h
   obtain⟨h2,rfl⟩:=h
   simpa [List.getD] using h2
theorem gZ {wr:List Wr}{n:Nat}{p:Wr}(h:cQ wr n=some p):p.1=ax n:=by
 unfold cQ at h
 cases h1:be (ax n) wr with
 |none=>rw[h1] at h;cases h
 |some k=>
  rw[h1] at h
  simp only[Option.map_some,Option.some.injEq] at h
  rw[←h]
  exact qu h1
theorem lK {wr:List Wr}{c:Nat}(hc:c<60):∀ n,n≤60→bR (cG wr n) (ax c)=if c<n then bR wr (ax c) else none
 |0,_=>by simp[cG,bR,be]
 |n+1,hn=>by
  rw[jZ]
  have ih:=lK (wr:=wr) hc n (by omega)
  cases h:cQ wr n with
  |none=>
   simp only[Option.toList_none,List.append_nil]
   rw[ih]
   by_cases e:c<n
   ·rw[if_pos e,if_pos (by omega)]
   ·rw[if_neg e]
    by_cases e2:c<n+1
    ·have:c=n:=by omega
     subst this
     rw[if_pos e2]
     unfold cQ at h
     unfold bR
     simp only[Option.map_eq_none_iff] at h
     rw[h];rfl
    ·rw[if_neg e2]
  |some p=>
   have hp:=gZ h
   simp only[Option.toList_some]
   rw[lX,ih,hp]
   by_cases e:c=n
   ·subst e
    rw[if_pos rfl,if_pos (by omega)]
    unfold cQ at h
    unfold bR
    cases h1:be (ax c) wr with
    |none=>rw[h1] at h;cases h
    |some k=>
     rw[h1] at h
     simp only[Option.map_some,Option.some.injEq] at h
     simp only[Option.map_some]
     rw[h]
   ·rw[if_neg (fun he=>e (gS (by omega) hc he).symm)]
    by_cases e2:c<n
    ·rw[if_pos e2,if_pos (by omega)]
    ·rw[if_neg e2,if_neg (by omega)]
theorem eK {wr:List Wr}{c:Nat}(hc:c<60):bR (aQ wr) (ax c)=bR wr (ax c):=by
 have:=lK (wr:=wr) hc 60 (Nat.le_refl _)
 rw[if_pos hc] at this
 exact this
theorem gH {l:List Wr}{c:ByteArray}:(bR l c).isSome=(be c l).isSome:=by simp[bR]
theorem tH {P:aK}{S:br}(h:de P S):kF P=!(aQ S.wr).isEmpty:=by
 rw[Bool.eq_iff_iff]
 simp only[kF,List.any_eq_true,List.mem_range,Bool.not_eq_true',List.isEmpty_eq_false_iff,ne_eq]
 constructor
 ·rintro⟨c,hc,hs⟩ he
  rw[h.wr c hc,←eK hc,he] at hs
  simp[bR,be] at hs
 ·intro hne
  apply Classical.byContradiction
  intro hc
  apply hne
  unfold aQ cG
  rw[List.filterMap_eq_nil_iff]
  intro c hcm
  have hc60:c<60:=by simpa using hcm
  unfold cQ
  cases h1:be (ax c) S.wr with
  |none=>rfl
  |some k=>
   exfalso
   apply hc
   exact⟨c,hc60,by rw[h.wr c hc60,gH,h1];rfl⟩
theorem id.clash {X:ap}{E:bm}{L:List (Nat×br)}(h:id X E L){q:Nat×br}(hq:q∈L):clash X (X.ses q.1)=d9 E q.2:=by
 have hs:=h.ses q hq
 rw[Bool.eq_iff_iff]
 simp only[Go.Proofs.YthlhbjnkohinmabGreat.clash,d9,List.any_eq_true,List.mem_range,Bool.and_eq_true,decide_eq_true_eq]
 constructor
 ·rintro⟨c,hc,hw,hl⟩
  rw[hs.wr c hc,gH] at hw
  cases h1:be (ax c) q.2.wr with
  |none=>rw[h1] at hw;cases hw
  |some k=>
   refine⟨q.2.wr.getD k (ByteArray.empty,0),?_,?_⟩
   ·unfold aQ cG
    rw[List.mem_filterMap]
    exact⟨c,by simpa using hc,by unfold cQ;rw[h1];rfl⟩
   ·rw[qu h1,←h.last c hc,←hs.snap]
    exact hl
 ·rintro⟨p,hp,hl⟩
  unfold aQ cG at hp
  rw[List.mem_filterMap] at hp
  obtain⟨c,hc,hn⟩:=hp
  have hc60:c<60:=by simpa using hc
  refine⟨c,hc60,?_,?_⟩
  ·rw[hs.wr c hc60,gH]
   unfold cQ at hn
   cases h1:be (ax c) q.2.wr with
   |none=>rw[h1] at hn;cases hn
   |some k=>rfl
  ·rw[gZ hn,←h.last c hc60,←hs.snap] at hl
   exact hl
theorem oF (X:ap)(P:aK):∀ n,keptN (X.commit P) n=keptN X n+cA P n
 |0=>rfl
 |n+1=>by
  unfold keptN cA
  rw[oF X P n]
  have:((X.commit P).hist n).length=(X.hist n).length+(if (P.wr n).isSome then 1 else 0):=by
   show (match P.wr n with|some v=>X.hist n++[(X.latest+1,v)]|none=>X.hist n).length=_
   cases P.wr n <;> simp
  omega
theorem kw {P:aK}{S:br}(hs:de P S):∀ n,n≤60→cA P n=(cG S.wr n).length
 |0,_=>rfl
 |n+1,hn=>by
  unfold cA cG
  rw[kw hs n (by omega),List.range_succ,List.filterMap_append,List.length_append,hs.wr n (by omega),gH]
  have e:(List.filterMap (cQ S.wr) [n]).length=if (be (ax n) S.wr).isSome then 1 else 0:=by
   simp only[List.filterMap_cons,List.filterMap_nil]
   unfold cQ
   cases be (ax n) S.wr <;> rfl
  rw[e]
  rfl
theorem id.commits {X:ap}{E:bm}{L:List (Nat×br)}(h:id X E L){P:aK}{S:br}(hs:de P S):id (X.commit P) (E.commit (aQ S.wr)) L:=by
 have hcl:(E.commit (aQ S.wr)).com.length=E.com.length+1:=by simp[bm.commit]
 refine { opn:=h.opn,places:=h.places,lt:=h.lt,ses:=h.ses,free:=h.free,nums:=h.nums,opened:=h.opened,openedPos:=h.openedPos,numLe:=h.numLe,snap:=?_,latest:=?_,hist:=?_,histS:=?_,histLe:=?_,last:=?_,room:=h.room,kept:=by rw[oF,kw hs 60 (Nat.le_refl _),h.kept];simp[bm.commit,aQ] }
 ·intro q hq
  have:=h.snap q hq
  rw[hcl]
  omega
 ·show X.latest+1=_
  rw[hcl,h.latest]
  omega
 ·intro c hc t ht
  rw[hcl] at ht
  show iX (match P.wr c with|some v=>X.hist c++[(X.latest+1,v)]|none=>X.hist c) t=lH (dM (E.com++[aQ S.wr]) (ax c) t).1
  have hw:=hs.wr c hc
  rw[←eK hc] at hw
  by_cases e:t=E.com.length+1
  ·subst e
   rw[mQ,hw]
   unfold bR
   cases h1:be (ax c) (aQ S.wr) with
   |some k=>
    simp only[Option.map_some]
    rw[oz,h.latest,if_pos (by omega)]
   |none=>
    simp only[Option.map_none]
    rw[←h.hist c hc E.com.length (Nat.le_refl _)]
    unfold iX
    have hle:=h.histLe c hc
    have hfind:∀ l:List (Int×Option Int),(∀ p∈l,p.1≤E.com.length)→l.find? (fun p=>decide (p.1≤((E.com.length+1:Nat):Int)))=l.find? (fun p=>decide (p.1≤(E.com.length:Int))):=by
     intro l hl
     cases l with
     |nil=>rfl
     |cons a r=>
      have:=hl a (by simp)
      rw[List.find?_cons,List.find?_cons]
      rw[decide_eq_true (by omega),decide_eq_true (by omega)]
    rw[hfind _ (fun p hp=>hle p (by simpa using hp))]
  ·rw[jB _ _ _ _ (by omega),←h.hist c hc t (by omega)]
   cases P.wr c with
   |none=>rfl
   |some v=>
    rw[oz,if_neg]
    rw[h.latest]
    omega
 ·intro c hc t ht
  rw[hcl] at ht
  show (aN (match P.wr c with|some v=>X.hist c++[(X.latest+1,v)]|none=>X.hist c) t).1=(dM (E.com++[aQ S.wr]) (ax c) t).2
  have hw:=hs.wr c hc
  rw[←eK hc] at hw
  by_cases e:t=E.com.length+1
  ·subst e
   rw[mQ,hw]
   unfold bR
   cases h1:be (ax c) (aQ S.wr) with
   |some k=>
    simp only[Option.map_some]
    rw[eF,h.latest,if_pos (by omega)]
   |none=>
    simp only[Option.map_none]
    rw[←h.histS c hc E.com.length (Nat.le_refl _)]
    unfold aN
    have hle:=h.histLe c hc
    have hfind:∀ l:List (Int×Option Int),(∀ p∈l,p.1≤E.com.length)→l.find? (fun p=>decide (p.1≤((E.com.length+1:Nat):Int)))=l.find? (fun p=>decide (p.1≤(E.com.length:Int))):=by
     intro l hl
     cases l with
     |nil=>rfl
     |cons a r=>
      have:=hl a (by simp)
      rw[List.find?_cons,List.find?_cons]
      rw[decide_eq_true (by omega),decide_eq_true (by omega)]
    rw[hfind _ (fun p hp=>hle p (by simpa using hp))]
  ·rw[jB _ _ _ _ (by omega),←h.histS c hc t (by omega)]
   cases P.wr c with
   |none=>rfl
   |some v=>
    rw[eF,if_neg]
    rw[h.latest]
    omega
 ·intro c hc p hp
  rw[hcl]
  have hp':p∈(match P.wr c with|some v=>X.hist c++[(X.latest+1,v)]|none=>X.hist c):=hp
  cases hw:P.wr c with
  |none=>
   rw[hw] at hp'
   have:=h.histLe c hc p hp'
   omega
  |some v=>
   rw[hw] at hp'
   rcases List.mem_append.mp hp' with hp'|hp'
   ·have:=h.histLe c hc p hp';omega
   ·simp at hp'
    rw[hp',h.latest]
    show (E.com.length:Int)+1≤_
    omega
 ·intro c hc
  rw[hcl]
  show (if (P.wr c).isSome=true then X.latest+1 else X.last c)=(dM (E.com++[aQ S.wr]) (ax c) (E.com.length+1)).2
  rw[mQ,hs.wr c hc,←eK hc,gH]
  cases h1:be (ax c) (aQ S.wr) with
  |some k=>simp[h.latest]
  |none=>simp[h.last c hc]
theorem id.commit {X:ap}{E:bm}{L:List (Nat×br)}(h:id X E L)(n:Int):(jD X n).1=(lh E n).1∧∃ L',id (jD X n).2 (lh E n).2 L':=by
 unfold jD lh
 rcases h.find n with ⟨h1,_,h3⟩|⟨i,hi,hi2,_,hn,h1,_,h3⟩
 ·rw[h1,h3];exact⟨rfl,L,h⟩
 ·rw[h1,h3]
  have hm:=List.getElem_mem hi
  simp only
  rw[tH (h.ses _ hm),h.clash hm]
  cases he:(aQ L[i].2.wr).isEmpty with
  |true=>
   have hr:d9 E L[i].2=false:=by
    unfold d9
    rw[List.isEmpty_iff.mp he]
    rfl
   rw[hr]
   exact⟨rfl,_,h.drop hi hn⟩
  |false=>
   cases hr:d9 E L[i].2 with
   |true=>exact⟨rfl,_,h.drop hi hn⟩
   |false=>
    refine⟨by simp[h.latest],L.filter (fun q=>q.2.num != n),?_⟩
    exact (h.commits (h.ses _ hm)).drop hi hn
def jG (E:bm):Int:=E.opn.foldl (fun o S=>if S.snap<o then S.snap else o) E.com.length
def gE (E:bm)(old:Int)(v:Int×Wr):Bool:=if v.2.2<0 then decide (v.1>old) else (List.range (E.com.length+1)).any fun t=>decide (old≤(t:Int))&&((dM E.com v.2.1 t).2==v.1)
def bm.swept (E:bm)(old:Int):bm:={ E with kept:=E.kept.filter (gE E old) }
def dS (E:bm):Int×bm:=((E.kept.length:Int) - ((E.swept (jG E)).kept.length:Int),E.swept (jG E))
def eb (E:bm)(m:Nat):bm:=if (E.kept.length:Int)+m>E.room then (dS E).2 else E
theorem xJ (y:Nat)(E:bm)(cs:List Value)(fc:List Nat)(a:Option Addr)(cp:Nat)(vs vv:Int)(vc:ByteArray)(old:Nat)(w:World)(hc:w.cell? ⟨y,2,none⟩=some (.slice a E.com.length cp))(hrow:w.ownsRow 0 46 1 (.slice a E.com.length cp) E.com.length cs)(hcom:aA io cs E.com w fc)(hlen:E.com.length≤9223372036854775806)(hl:∀ l∈E.com,l.length≤9223372036854775806)(hold:old≤E.com.length):
  Calls Tryz.prog 66 #[.pointer (some ⟨y,0,none⟩),.agg #[.int .i64 vs,.string vc,.int .i64 vv],.int .i64 old] w fun e w'=>e=.returned (.bool (gE E old (vs,vc,vv)))∧w.grownBy w' none:=by
 have hyl:y<w.heap.size:=World.block_lt_of_cell? w _ hc
 have hyz:y≠w.heap.size:=by omega
 by_cases hneg:vv<0
 ·have HW:Hid (gE E old (vs,vc,vv)=decide (vs>old)):=af (by unfold gE;rw[if_pos hneg])
  clear hc hrow hcom hl
  by_cases hgt:vs>(old:Int)
  ·have HD:Hid (gE E old (vs,vc,vv)=true):=af (by rw[HW.out];exact decide_eq_true hgt)
   go_enter Tryz.func66,Tryz.ntmps66
   go_wp2
   go_ret
   exact⟨by rw[HD.out];rfl,ab (ag _ _) _⟩
  ·have HD:Hid (gE E old (vs,vc,vv)=false):=af (by rw[HW.out];exact decide_eq_false hgt)
   go_enter Tryz.func66,Tryz.ntmps66
   go_wp2
   go_ret
   exact⟨by rw[HD.out];rfl,ab (ag _ _) _⟩
 ·obtain⟨W1,hW1⟩:∃ W1,W1=w.alloc (.cells #[.int .i64 vs,.string vc,.int .i64 vv] 123):=⟨_,rfl⟩
  have hg1:w.grownBy W1 none:=by rw[hW1];exact ab (ag _ _) _
  have HAT:Hid (∀ k:Nat,k≤E.com.length→Calls Tryz.prog 54 #[.pointer (some ⟨y,0,none⟩),.string vc,.int .i64 k] W1 fun e w'=>e=.returned (.tuple #[.int .i64 (dM E.com vc k).1,.int .i64 (dM E.com vc k).2])∧w'=W1):=af (fun k hk=>
   tR y E.com cs fc vc k a _ cp W1 (hg1.cell hc (by simp)) (aq hrow hg1 (fun g hg=>by cases hg)) (aA.framed io.framed _ _ hcom (aI hg1) (by simp)) hk (by omega) (fun l hl'=>by have:=hl l hl';omega))
  have HYES:Hid (∀ k:Nat,old≤k→k≤E.com.length→(dM E.com vc k).2=vs→gE E old (vs,vc,vv)=true):=af (fun k h1 h2 h3=>by
   unfold gE
   rw[if_neg hneg,List.any_eq_true]
   refine⟨k,by simp;omega,?_⟩
   simp only[Bool.and_eq_true,decide_eq_true_eq,beq_iff_eq]
   exact⟨by omega,h3⟩)
  have HNO:Hid ((∀ k:Nat,old≤k→k≤E.com.length→(dM E.com vc k).2≠vs)→gE E old (vs,vc,vv)=false):=af (fun h=>by
   unfold gE
   rw[if_neg hneg,List.any_eq_false]
   intro k hk
   simp only[Bool.and_eq_true,decide_eq_true_eq,beq_iff_eq,not_and]
   intro h1 h2
   exact h k (by omega) (by have:k<E.com.length+1:=by simpa using hk
                            omega) h2)
  have c2:W1.cell? ⟨y,2,none⟩=some (.slice a E.com.length cp):=hg1.cell hc (by simp)
  have HG1:=af hg1
  obtain⟨r,hr⟩:∃ r,r=gE E old (vs,vc,vv):=⟨_,rfl⟩
  rw[←hr] at HYES HNO ⊢
  clear hc hrow hcom hl hg1 hr
  go_enter Tryz.func66,Tryz.ntmps66
  go_wp2_with fail
  have v0:W1.cell? ⟨w.heap.size,0,none⟩=some (.int .i64 vs):=by rw[hW1,World.cell?_alloc_at _ _ _ _ rfl];rfl
  have v1:W1.cell? ⟨w.heap.size,1,none⟩=some (.string vc):=by rw[hW1,World.cell?_alloc_at _ _ _ _ rfl];rfl
  rw[←hW1]
  clear hW1
  go_loop [7] (fun t=>∃ k:Nat,old≤k∧k≤E.com.length+1∧t=.int .i64 k∧∀ j:Nat,old≤j→j<k→(dM E.com vc j).2≠vs) (fun t=>E.com.length+1 - (intOf t).toNat)
  case atStart=>exact⟨old,Nat.le_refl _,by omega,rfl,fun j h1 h2=>by omega⟩
  case round=>
   obtain⟨k,hk,hk2,rfl,hno⟩:=hrel
   have HN:=af hno
   clear hno
   by_cases hlt:k≤E.com.length
   ·have HA:=af (HAT.out k hlt)
    obtain⟨t0,ht0⟩:∃ t0,t0=(dM E.com vc k).2:=⟨_,rfl⟩
    obtain⟨u0,hu0⟩:∃ u0,u0=(dM E.com vc k).1:=⟨_,rfl⟩
    rw[←ht0,←hu0] at HA
    have HT:=af ht0
    clear ht0 hu0
    have hlt':(k:Int)≤(E.com.length:Int):=by omega
    go_wp2_with fail
    go_at_call 54
    refine HA.out.mono ?_
    rintro e w' ⟨rfl,rfl⟩
    by_cases he:t0=vs
    ·have HR:Hid (r=true):=af (HYES.out k hk hlt (by rw[←HT.out];exact he))
     subst he
     go_wp2
     go_ret
     exact⟨by rw[HR.out];rfl,HG1.out⟩
    ·have hb:(t0==vs)=false:=by simpa using he
     have HN2:Hid (∀ j:Nat,old≤j→j<k+1→(dM E.com vc j).2≠vs):=af (fun j h1 h2=>by
      by_cases e:j=k
      ·subst e;rw[←HT.out];exact he
      ·exact HN.out j h1 (by omega))
     go_wp2
     go_round
     case rel=>exact⟨k+1,by omega,by omega,by go_num,HN2.out⟩
     case measure=>simp[intOf];omega
   ·have hlt':¬(k:Int)≤(E.com.length:Int):=by omega
    have HR:Hid (r=false):=af (HNO.out (fun j h1 h2=>HN.out j h1 (by omega)))
    go_wp2
    go_ret
    exact⟨by rw[HR.out];rfl,HG1.out⟩
end Go.Proofs.YthlhbjnkohinmabGreat
