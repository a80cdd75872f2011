import Derived.Test.YthlhbjnkohinmabGreatP09
import Derived.Test.YthlhbjnkohinmabGreatP11
import Derived.Test.YthlhbjnkohinmabGreatP05
namespace Go.Proofs.YthlhbjnkohinmabGreat
set_option maxRecDepth 100000
set_option maxHeartbeats 8000000
open Go.RowKit
def aK.bare (S:aK):aK:={ S with mks:=none }
def ap.plain (X:ap):ap:={ X with src:=((.bool false,X.src.1.2),X.src.2),ses:=fun k=>(X.ses k).bare }
abbrev dN:=Nat→Nat→Option Int
def vZ:Nat→Option Int:=fun _=>none
def cy (X X':ap)(F:dN):dN:=fun k=>if (X'.ses k).num=(X.ses k).num then F k else vZ
def jM (X X':ap):Prop:=∀ k,k<8→((X'.ses k).num=(X.ses k).num→(X'.ses k).mks=(X.ses k).mks)∧((X'.ses k).num≠(X.ses k).num→(X'.ses k).mks=none)
theorem jM.same {X X':ap}(h:X'.ses=X.ses):jM X X':=fun k _=>⟨fun _=>by rw[h],fun e=>absurd (by rw[h]) e⟩
theorem jM.set {X X':ap}{k:Nat}{S:aK}(h:X'.ses=cI X.ses k S)(h1:S.num=(X.ses k).num→S.mks=(X.ses k).mks)(h2:S.num≠(X.ses k).num→S.mks=none):jM X X':=by
 intro j _
 rw[h]
 by_cases e:j=k
 ·subst e
  rw[aW]
  exact⟨h1,h2⟩
 ·rw[bD _ _ _ e]
  exact⟨fun _=>rfl,fun c=>absurd rfl c⟩
theorem eG (X:ap)(k:Nat)(S:aK):(X.setSes k S).plain=X.plain.setSes k S.bare:=by
 unfold ap.plain ap.setSes
 congr 1
 funext j
 simp only[cI]
 split <;> rfl
theorem d8 {X:ap}{n:Int}{k:Nat}(h:aM X n=some k):k<8∧(X.ses k).num=n∧1≤n:=by
 unfold aM at h
 split at h
 ·cases h
 ·obtain⟨h1,h2⟩:=bu h
  exact⟨h1,h2,by omega⟩
theorem oI (X:ap)(ho:0≤X.opened):(a8 X).1=(a8 X.plain).1∧(a8 X).2.plain=(a8 X.plain).2∧(a8 X).2.src=X.src∧jM X (a8 X).2:=by
 have e:bd X.plain 0=bd X 0:=rfl
 unfold a8
 rw[e]
 cases hf:bd X 0 with
 |none=>exact⟨rfl,rfl,rfl,.same rfl⟩
 |some k=>
  obtain⟨_,h0⟩:=bu hf
  refine⟨rfl,?_,rfl,.set (k:=k) (S:=.new (X.opened+1) X.latest) rfl (fun h=>?_) (fun _=>rfl)⟩
  ·unfold ap.plain
   simp only[]
   congr 1
   funext j
   simp only[cI]
   split <;> rfl
  ·have:X.opened+1=0:=by rw[←h0];exact h
   omega
theorem qz (X:ap)(n:Int)(s:ByteArray):(cj X n s).1=(cj X.plain n s).1∧(cj X n s).2.plain=(cj X.plain n s).2∧(cj X n s).2.src=X.src∧jM X (cj X n s).2:=by
 have e:aM X.plain n=aM X n:=rfl
 unfold cj
 rw[e]
 cases hf:aM X n with
 |none=>exact⟨rfl,rfl,rfl,.same rfl⟩
 |some k=>
  cases eU s with
  |false=>exact⟨rfl,rfl,rfl,.same rfl⟩
  |true=>exact⟨rfl,eG _ _ _,rfl,.set rfl (fun _=>rfl) (fun h=>absurd rfl h)⟩
theorem mL (X:ap)(n:Int)(s:ByteArray):(aX X n s).1=(aX X.plain n s).1∧(aX X n s).2.plain=(aX X.plain n s).2∧(aX X n s).2.src=X.src∧jM X (aX X n s).2:=by
 have e:aM X.plain n=aM X n:=rfl
 unfold aX
 rw[e]
 cases hf:aM X n with
 |none=>exact⟨rfl,rfl,rfl,.same rfl⟩
 |some k=>
  cases eE s with
  |false=>exact⟨rfl,rfl,rfl,.same rfl⟩
  |true=>exact⟨rfl,eG _ _ _,rfl,.set rfl (fun _=>rfl) (fun h=>absurd rfl h)⟩
theorem nu {X X':ap}{n:Int}{k:Nat}(hf:aM X n=some k)(h:X'.ses=cI X.ses k .zero):jM X X':=by
 obtain⟨_,h1,h2⟩:=d8 hf
 refine .set h (fun e=>?_) (fun _=>rfl)
 have:(0:Int)=(X.ses k).num:=e
 omega
theorem ns (X:ap)(n:Int):(aY X n).1=(aY X.plain n).1∧(aY X n).2.plain=(aY X.plain n).2∧(aY X n).2.src=X.src∧jM X (aY X n).2:=by
 have e:aM X.plain n=aM X n:=rfl
 unfold aY
 rw[e]
 cases hf:aM X n with
 |none=>exact⟨rfl,rfl,rfl,.same rfl⟩
 |some k=>exact⟨rfl,eG _ _ _,rfl,nu hf rfl⟩
theorem gg (X:ap)(n:Nat):keptN X.plain n=keptN X n:=eH (X:=X) (Y:=X.plain) rfl n
theorem nK (X:ap):∀ k,cO X.plain k=cO X k
 |0=>rfl
 |k+1=>by
  unfold cO
  rw[nK X k]
  rfl
theorem oD (X:ap)(t:Int):(X.swept t).plain=X.plain.swept t:=rfl
theorem no (X:ap):(cq X).1=(cq X.plain).1∧(cq X).2.plain=(cq X.plain).2∧(cq X).2.src=X.src∧jM X (cq X).2:=by
 unfold cq
 rw[nK,gg,←oD,gg]
 exact⟨rfl,rfl,rfl,.same rfl⟩
theorem rP (S:aK):∀ n,cA S.bare n=cA S n
 |0=>rfl
 |n+1=>by
  unfold cA
  rw[rP S n]
  rfl
theorem qm (X:ap)(m:Nat):(cL X m).1=(cL X.plain m).1∧(cL X m).2.plain=(cL X.plain m).2∧(cL X m).2.src=X.src∧(cL X m).2.ses=X.ses:=by
 have e:X.plain.room=X.room:=rfl
 unfold cL
 rw[nK,gg,←oD,gg,e]
 split
 ·exact⟨rfl,rfl,rfl,rfl⟩
 ·exact⟨rfl,rfl,rfl,rfl⟩
theorem tQ (X:ap)(S:aK):(X.commit S).plain=X.plain.commit S.bare:=rfl
theorem gV (X:ap)(n:Int):(bI X n).1=(bI X.plain n).1∧(bI X n).2.plain=(bI X.plain n).2∧(bI X n).2.src=X.src∧jM X (bI X n).2:=by
 have e:aM X.plain n=aM X n:=rfl
 unfold bI
 rw[e]
 cases hf:aM X n with
 |none=>exact⟨rfl,rfl,rfl,.same rfl⟩
 |some k=>
  simp only[]
  have e1:kF (X.plain.ses k)=kF (X.ses k):=rfl
  have e2:clash X.plain (X.plain.ses k)=clash X (X.ses k):=rfl
  have e3:cA (X.plain.ses k) 60=cA (X.ses k) 60:=rP _ _
  rw[e1,e2,e3]
  obtain⟨r1,r2,r3,r4⟩:=qm X (cA (X.ses k) 60)
  rw[←r1,←r2]
  cases kF (X.ses k) with
  |false=>exact⟨rfl,eG _ _ _,rfl,nu hf rfl⟩
  |true=>
   cases clash X (X.ses k) with
   |true=>exact⟨rfl,eG _ _ _,rfl,nu hf rfl⟩
   |false=>
    cases (cL X (cA (X.ses k) 60)).1 with
    |false=>exact⟨rfl,rfl,r3,.same r4⟩
    |true=>
     refine⟨rfl,?_,r3,nu hf ?_⟩
     ·show ((((cL X (cA (X.ses k) 60)).2.setSes k .zero).commit (X.ses k))).plain=_
      rw[tQ,eG]
      rfl
     ·show cI (cL X (cA (X.ses k) 60)).2.ses k .zero=_
      rw[r4]
structure eQ (i:Nat)(X:ap):Prop where
 opened:0≤X.opened∧X.opened≤i
 latest:0≤X.latest∧X.latest≤i
 num:∀ k,k<8→0≤(X.ses k).num∧(X.ses k).num≤X.opened
 uniq:∀ j k,j<8→k<8→(X.ses j).num=(X.ses k).num→(X.ses j).num=0∨j=k
 snap:∀ k,k<8→0≤(X.ses k).snap∧(X.ses k).snap≤X.latest
 made:∀ k,k<8→0≤(X.ses k).made∧(X.ses k).made≤400*i
 wr:∀ k,k<8→∀ c v,(X.ses k).wr c=some (some v)→0≤v∧v≤9
 inc:∀ c,wD (X.hist c)
 his:∀ c,∀ p∈X.hist c,p.1≤X.latest∧∀ v,p.2=some v→0≤v∧v≤9
 kept:(keptN X 60:Int)≤X.room
 room:1≤X.room∧X.room≤999
theorem sf {X Y:ap}(h:(keptN X 60:Int)≤X.room)(e:Y.hist=X.hist)(r:Y.room=X.room):(keptN Y 60:Int)≤Y.room:=by rw[eH e,r];exact h
theorem eQ.mono {i j:Nat}{X:ap}(h:eQ i X)(hij:i≤j):eQ j X:=
 ⟨by have:=h.opened;omega,by have:=h.latest;omega,h.num,h.uniq,h.snap,fun k hk=>by have:=h.made k hk;omega,h.wr,h.inc,h.his,h.kept,h.room⟩
theorem eQ.setSes {i:Nat}{X:ap}(h:eQ i X){k:Nat}{S:aK}(hk:k<8)(hnum:S.num=(X.ses k).num∨S.num=0)(hsn:0≤S.snap∧S.snap≤X.latest)(hmd:0≤S.made∧S.made≤400*i)(hwr:∀ c v,S.wr c=some (some v)→0≤v∧v≤9):eQ i (X.setSes k S):=by
 have hs:∀ j,j≠k→(X.setSes k S).ses j=X.ses j:=fun j e=>bD _ _ _ e
 have hself:(X.setSes k S).ses k=S:=aW _ _ _
 refine⟨h.opened,h.latest,fun j hj=>?_,fun j l hj hl he=>?_,fun j hj=>?_,fun j hj=>?_,fun j hj=>?_,h.inc,h.his,sf h.kept rfl rfl,h.room⟩
 ·by_cases e:j=k
  ·subst e
   rw[hself]
   have h1:=h.num j hj
   have h2:=h.opened
   show 0≤S.num∧S.num≤X.opened
   rcases hnum with e|e <;> omega
  ·rw[hs j e]
   exact h.num j hj
 ·by_cases e:j=k
  ·by_cases e2:l=k
   ·exact .inr (e.trans e2.symm)
   ·rw[e,hself,hs l e2] at he
    rw[e,hself]
    rcases hnum with e3|e3
    ·rw[e3] at he ⊢
     rcases h.uniq k l hk hl he with h1|h1
     ·exact .inl h1
     ·exact absurd h1.symm e2
    ·exact .inl e3
  ·by_cases e2:l=k
   ·rw[e2,hself,hs j e] at he
    rw[hs j e]
    rcases hnum with e3|e3
    ·rw[e3] at he
     rcases h.uniq j k hj hk he with h1|h1
     ·exact .inl h1
     ·exact absurd h1 e
    ·exact .inl (by rw[he];exact e3)
   ·rw[hs j e,hs l e2] at he
    rw[hs j e]
    exact h.uniq j l hj hl he
 ·by_cases e:j=k
  ·subst e;rw[hself];exact hsn
  ·rw[hs j e];exact h.snap j hj
 ·by_cases e:j=k
  ·subst e;rw[hself];exact hmd
  ·rw[hs j e];exact h.made j hj
 ·by_cases e:j=k
  ·subst e;rw[hself];exact hwr
  ·rw[hs j e];exact h.wr j hj
theorem eQ.zero {i:Nat}{X:ap}(h:eQ i X){k:Nat}(hk:k<8):eQ i (X.setSes k .zero):=
 h.setSes hk (.inr rfl) ⟨Int.le_refl 0,h.latest.1⟩ ⟨Int.le_refl 0,by show (0:Int)≤400*i;omega⟩ (fun c v e=>by cases e)
theorem eQ.write {i:Nat}{X:ap}(h:eQ i X){k:Nat}(hk:k<8)(c:Nat)(v:Option Int)(hv:∀ u,v=some u→0≤u∧u≤9):eQ (i+1) (X.setSes k ((X.ses k).put c v)):=by
 refine (h.mono (Nat.le_succ i)).setSes hk (.inl rfl) (h.snap k hk) ?_ (fun d u e=>?_)
 ·have:=h.made k hk
  show 0≤(X.ses k).made+1∧(X.ses k).made+1≤400*((i+1:Nat):Int)
  omega
 ·have e':cI (X.ses k).wr c (some v) d=some (some u):=e
  unfold cI at e'
  split at e'
  ·simp only[Option.some.injEq] at e'
   exact hv u e'
  ·exact h.wr k hk d u e'
theorem eQ.open {i:Nat}{X:ap}(h:eQ i X):eQ (i+1) (a8 X).2:=by
 unfold a8
 cases hf:bd X 0 with
 |none=>exact h.mono (Nat.le_succ i)
 |some k=>
  obtain⟨hk,h0⟩:=bu hf
  have ho:=h.opened
  have hl:=h.latest
  have hs:∀ j,j≠k→cI X.ses k (.new (X.opened+1) X.latest) j=X.ses j:=fun j e=>bD _ _ _ e
  have hself:cI X.ses k (.new (X.opened+1) X.latest) k=.new (X.opened+1) X.latest:=aW _ _ _
  refine⟨?_,?_,fun j hj=>?_,fun j l hj hl he=>?_,fun j hj=>?_,fun j hj=>?_,fun j hj=>?_,h.inc,h.his,sf h.kept rfl rfl,h.room⟩
  ·show 0≤X.opened+1∧X.opened+1≤((i+1:Nat):Int);omega
  ·show 0≤X.latest∧X.latest≤((i+1:Nat):Int);omega
  ·show 0≤(cI X.ses k _ j).num∧(cI X.ses k _ j).num≤X.opened+1
   by_cases e:j=k
   ·subst e
    rw[hself]
    show 0≤X.opened+1∧X.opened+1≤X.opened+1
    omega
   ·rw[hs j e]
    have:=h.num j hj
    omega
  ·have he':(cI X.ses k (.new (X.opened+1) X.latest) j).num=(cI X.ses k (.new (X.opened+1) X.latest) l).num:=he
   show (cI X.ses k _ j).num=0∨j=l
   by_cases e:j=k
   ·by_cases e2:l=k
    ·exact .inr (e.trans e2.symm)
    ·rw[e,hself,hs l e2] at he'
     have:=h.num l hl
     have h3:X.opened+1=(X.ses l).num:=he'
     omega
   ·by_cases e2:l=k
    ·rw[e2,hself,hs j e] at he'
     have:=h.num j hj
     have h3:(X.ses j).num=X.opened+1:=he'
     omega
    ·rw[hs j e,hs l e2] at he'
     rw[hs j e]
     exact h.uniq j l hj hl he'
  ·show 0≤(cI X.ses k _ j).snap∧(cI X.ses k _ j).snap≤X.latest
   by_cases e:j=k
   ·subst e;rw[hself];exact⟨hl.1,Int.le_refl _⟩
   ·rw[hs j e];exact h.snap j hj
  ·show 0≤(cI X.ses k _ j).made∧(cI X.ses k _ j).made≤400*((i+1:Nat):Int)
   by_cases e:j=k
   ·subst e;rw[hself];show (0:Int)≤0∧(0:Int)≤400*((i+1:Nat):Int);omega
   ·rw[hs j e];have:=h.made j hj;omega
  ·show ∀ c v,(cI X.ses k _ j).wr c=some (some v)→0≤v∧v≤9
   by_cases e:j=k
   ·subst e;rw[hself];intro c v hv;cases hv
   ·rw[hs j e];exact h.wr j hj
theorem eQ.put {i:Nat}{X:ap}(h:eQ i X)(n:Int)(s:ByteArray):eQ (i+1) (cj X n s).2:=by
 unfold cj
 cases hf:aM X n with
 |none=>exact h.mono (Nat.le_succ i)
 |some k=>
  cases hb:eU s with
  |false=>exact h.mono (Nat.le_succ i)
  |true=>
   refine h.write (d8 hf).1 _ _ (fun u e=>?_)
   unfold eU at hb
   simp only[Bool.and_eq_true] at hb
   have:=hb.2
   simp[bM] at this
   simp only[Option.some.injEq] at e
   omega
theorem eQ.clear {i:Nat}{X:ap}(h:eQ i X)(n:Int)(s:ByteArray):eQ (i+1) (aX X n s).2:=by
 unfold aX
 cases hf:aM X n with
 |none=>exact h.mono (Nat.le_succ i)
 |some k=>
  cases eE s with
  |false=>exact h.mono (Nat.le_succ i)
  |true=>exact h.write (d8 hf).1 _ _ (fun u e=>by cases e)
theorem eQ.abort {i:Nat}{X:ap}(h:eQ i X)(n:Int):eQ (i+1) (aY X n).2:=by
 unfold aY
 cases hf:aM X n with
 |none=>exact h.mono (Nat.le_succ i)
 |some k=>exact (h.mono (Nat.le_succ i)).zero (d8 hf).1
theorem eQ.swept {i:Nat}{X:ap}(h:eQ i X)(t:Int):eQ i (X.swept t):=
 ⟨h.opened,h.latest,h.num,h.uniq,h.snap,h.made,h.wr,fun c=>(h.inc c).swept t,fun c p hp=>h.his c p (List.filter_sublist.subset hp),by have:=gY X t 60;have:=h.kept;show (keptN (X.swept t) 60:Int)≤X.room;omega,h.room⟩
theorem eQ.sweep {i:Nat}{X:ap}(h:eQ i X):eQ (i+1) (cq X).2:=(h.mono (Nat.le_succ i)).swept _
theorem eQ.roomed {i:Nat}{X:ap}(h:eQ i X)(m:Nat):eQ i (cL X m).2:=by
 unfold cL
 split
 ·exact h
 ·exact h.swept _
theorem sM (X:ap)(P:aK):∀ n,keptN (X.commit P) n=keptN X n+cA P n
 |0=>rfl
 |n+1=>by
  have h1:keptN (X.commit P) (n+1)=keptN (X.commit P) n+((X.commit P).hist n).length:=rfl
  have h2:keptN X (n+1)=keptN X n+(X.hist n).length:=rfl
  have h3:cA P (n+1)=cA P n+(if (P.wr n).isSome then 1 else 0):=rfl
  have h4:((X.commit P).hist n).length=(X.hist n).length+(if (P.wr n).isSome then 1 else 0):=by
   show (match P.wr n with|some v=>X.hist n++[(X.latest+1,v)]|none=>X.hist n).length=_
   cases P.wr n <;> simp
  rw[h1,h2,h3,h4,sM X P n]
  omega
theorem zY {X:ap}{m:Nat}(h:(cL X m).1=true):((keptN (cL X m).2 60+m:Nat):Int)≤X.room:=by
 unfold cL at h ⊢
 split
 ·rename_i hr
  exact hr
 ·rename_i hr
  rw[if_neg hr] at h
  exact of_decide_eq_true h
theorem eQ.committed {i:Nat}{X:ap}(h:eQ i X){S:aK}(hw:∀ c v,S.wr c=some (some v)→0≤v∧v≤9)(hr:((keptN X 60+cA S 60:Nat):Int)≤X.room):eQ (i+1) (X.commit S):=by
 have hl:=h.latest
 have hh:∀ c,(X.commit S).hist c=X.hist c∨∃ v,S.wr c=some v∧(X.commit S).hist c=X.hist c++[(X.latest+1,v)]:=fun c=>by
  show (match S.wr c with|some v=>X.hist c++[(X.latest+1,v)]|none=>X.hist c)=_∨_
  cases hc:S.wr c with
  |none=>exact .inl rfl
  |some v=>
   refine .inr ⟨v,rfl,?_⟩
   show (match S.wr c with|some v=>X.hist c++[(X.latest+1,v)]|none=>X.hist c)=_
   rw[hc]
 refine⟨by have:=h.opened;show 0≤X.opened∧X.opened≤((i+1:Nat):Int);omega,by show 0≤X.latest+1∧X.latest+1≤((i+1:Nat):Int);omega,h.num,h.uniq,fun k hk=>by
  have:=h.snap k hk
  show 0≤(X.ses k).snap∧(X.ses k).snap≤X.latest+1
  omega,fun k hk=>by
  have:=h.made k hk
  show 0≤(X.ses k).made∧(X.ses k).made≤400*((i+1:Nat):Int)
  omega,h.wr,fun c=>?_,fun c p hp=>?_,by rw[sM];exact hr,h.room⟩
 ·rcases hh c with e|⟨v,_,e⟩
  ·rw[e];exact h.inc c
  ·rw[e]
   exact (h.inc c).snoc (fun q hq=>by have:=(h.his c q hq).1;show q.1<X.latest+1;omega) (by show 1≤X.latest+1;omega)
 ·show p.1≤X.latest+1∧_
  rcases hh c with e|⟨v,hv,e⟩
  ·rw[e] at hp
   have:=h.his c p hp
   exact⟨by omega,this.2⟩
  ·rw[e] at hp
   rcases List.mem_append.mp hp with hp|hp
   ·have:=h.his c p hp
    exact⟨by omega,this.2⟩
   ·rw[List.mem_singleton] at hp
    subst hp
    exact⟨Int.le_refl _,fun u hu=>hw c u (by rw[hv];exact congrArg some hu)⟩
theorem eQ.commit {i:Nat}{X:ap}(h:eQ i X)(n:Int):eQ (i+1) (bI X n).2:=by
 unfold bI
 cases hf:aM X n with
 |none=>exact h.mono (Nat.le_succ i)
 |some k=>
  have hk:=(d8 hf).1
  simp only[]
  cases kF (X.ses k) with
  |false=>exact (h.mono (Nat.le_succ i)).zero hk
  |true=>
   cases clash X (X.ses k) with
   |true=>exact (h.mono (Nat.le_succ i)).zero hk
   |false=>
    cases hrm:(cL X (cA (X.ses k) 60)).1 with
    |false=>exact (h.mono (Nat.le_succ i)).roomed _
    |true=>
     have hfit:=zY hrm
     obtain⟨_,_,r3,_⟩:=qm X (cA (X.ses k) 60)
     refine ((h.roomed _).zero hk).committed (h.wr k hk) ?_
     rw[eH (X:=(cL X (cA (X.ses k) 60)).2) (Y:=(cL X (cA (X.ses k) 60)).2.setSes k .zero) rfl]
     show _≤(cL X (cA (X.ses k) 60)).2.src.1.2
     rw[r3]
     exact hfit
theorem eQ.plain {i:Nat}{X:ap}:eQ i X↔eQ i X.plain:=
 ⟨fun h=>⟨h.opened,h.latest,h.num,h.uniq,h.snap,h.made,h.wr,h.inc,h.his,by rw[gg];exact h.kept,h.room⟩,fun h=>⟨h.opened,h.latest,h.num,h.uniq,h.snap,h.made,h.wr,h.inc,h.his,by have:=h.kept;rw[gg] at this;exact this,h.room⟩⟩
theorem eQ.keptN {i:Nat}{X:ap}(h:eQ i X):keptN X 60≤999:=by
 have h1:=h.kept
 have h2:=h.room
 omega
theorem eQ.len {i:Nat}{X:ap}(h:eQ i X){c:Nat}(hc:c<60):(X.hist c).length≤999:=by
 have h1:=h.keptN
 have h2:=ke X (m:=c+1) (n:=60) (by omega)
 have h3:Go.Proofs.YthlhbjnkohinmabGreat.keptN X (c+1)=Go.Proofs.YthlhbjnkohinmabGreat.keptN X c+(X.hist c).length:=rfl
 omega
theorem eQ.mores {i:Nat}{X:ap}(h:eQ i X)(hi:i≤100000000000000){n:Int}{k:Nat}(hf:aM X n=some k):(X.ses k).more:=by
 have hk:=(d8 hf).1
 have h1:=h.snap k hk
 have h2:=h.made k hk
 have h3:=h.latest
 unfold aK.more
 omega
theorem nS {h:gw}{t v:Int}(e:(aN h t).2=some v):aN h t∈h:=by
 unfold aN at e ⊢
 cases hf:h.reverse.find? (fun p=>decide (p.1≤t)) with
 |none=>rw[hf] at e;cases e
 |some q=>exact List.mem_reverse.mp (List.mem_of_find?_eq_some hf)
theorem eQ.seen {i:Nat}{X:ap}(h:eQ i X){k:Nat}(hk:k<8):EC (jk X k):=by
 intro c v _ hv
 unfold jk at hv
 cases hw:(X.ses k).wr c with
 |none=>
  rw[hw] at hv
  simp only at hv
  rw[←gt] at hv
  exact (h.his c _ (nS hv)).2 v hv
 |some u=>
  rw[hw] at hv
  simp only at hv
  exact h.wr k hk c v (by rw[hw,hv])
theorem jJ {α:Type}{f:Nat→List α}(hf:∀ c,(f c).length=4):∀ n,((List.range n).flatMap f).length=n*4
 |0=>rfl
 |n+1=>by rw[List.range_succ,List.flatMap_append,List.length_append,jJ hf n];simp[hf];omega
theorem kR {α:Type}{f:Nat→List α}(hf:∀ c,(f c).length=4){c j:Nat}(hj:j<4):∀ n,c<n→((List.range n).flatMap f)[c*4+j]?=(f c)[j]?
 |0,h=>by omega
 |n+1,h=>by
  rw[List.range_succ,List.flatMap_append]
  by_cases e:c=n
  ·subst e
   rw[List.getElem?_append_right (by rw[jJ hf];omega),jJ hf]
   simp
  ·rw[List.getElem?_append_left (by rw[jJ hf];omega)]
   exact kR hf hj n (by omega)
def aZ (wr:Nat→PW)(tm:Nat→Int):List Value:=(List.range 60).flatMap fun c=>[.bool (iU (wr c)),.bool (gW (wr c)),.int .i64 (re (wr c)),.int .i64 (tm c)]
def cZ (S:aK):List Value:=.int .i64 S.num::.int .i64 S.snap::.int .i64 S.made::(aZ S.wr S.tm++[Fz S.mks])
theorem dW (wr:Nat→PW)(tm:Nat→Int):(aZ wr tm).length=240:=jJ (fun _=>rfl) 60
theorem b7 (S:aK):(cZ S).length=244:=by simp[cZ,dW]
theorem dX (wr:Nat→PW)(tm:Nat→Int){c:Nat}(hc:c<60):(aZ wr tm)[c*4]?=some (.bool (iU (wr c)))∧(aZ wr tm)[c*4+1]?=some (.bool (gW (wr c)))∧(aZ wr tm)[c*4+2]?=some (.int .i64 (re (wr c)))∧(aZ wr tm)[c*4+3]?=some (.int .i64 (tm c)):=
 ⟨kR (j:=0) (fun _=>rfl) (by omega) 60 hc,kR (j:=1) (fun _=>rfl) (by omega) 60 hc,kR (j:=2) (fun _=>rfl) (by omega) 60 hc,kR (j:=3) (fun _=>rfl) (by omega) 60 hc⟩
theorem s7 (wr:Nat→PW)(tm:Nat→Int):∀ v∈aZ wr tm,v.oneCell'=true:=by
 intro v hv
 unfold aZ at hv
 rw[List.mem_flatMap] at hv
 obtain⟨c,_,h⟩:=hv
 simp at h
 rcases h with rfl|rfl|rfl|rfl <;> rfl
theorem ki (S:aK):∀ v∈cZ S,v.oneCell'=true:=by
 intro v hv
 unfold cZ at hv
 simp only[List.mem_cons,List.mem_append,List.not_mem_nil,or_false] at hv
 rcases hv with rfl|rfl|rfl|hv|rfl
 ·rfl
 ·rfl
 ·rfl
 ·exact s7 _ _ v hv
 ·cases S.mks <;> rfl
theorem cJ.writes {w:World}{b o:Nat}{S:aK}(h:cJ w b o S):w.rangeAt b (o+3) (aZ S.wr S.tm):=by
 intro j v hv
 have hj:j<240:=by
  have:=(List.getElem?_eq_some_iff.1 hv).1
  rw[dW] at this
  exact this
 obtain⟨a0,a1,a2,a3⟩:=dX S.wr S.tm (c:=j / 4) (by omega)
 have e:j=j / 4*4∨j=j / 4*4+1∨j=j / 4*4+2∨j=j / 4*4+3:=by omega
 rcases e with e|e|e|e
 ·rw[e,a0] at hv
  rw[e,←hv]
  exact h.made (j / 4) (by omega)
 ·rw[e,a1] at hv
  rw[e,←hv]
  exact h.filled (j / 4) (by omega)
 ·rw[e,a2] at hv
  rw[e,←hv]
  exact h.val (j / 4) (by omega)
 ·rw[e,a3] at hv
  rw[e,←hv]
  exact h.tm (j / 4) (by omega)
theorem cJ.range {w:World}{b o:Nat}{S:aK}(h:cJ w b o S):w.rangeAt b o (cZ S):=by
 intro j v hv
 match j,hv with
 |0,hv=>
  simp[cZ] at hv
  rw[←hv]
  exact h.num
 |1,hv=>
  simp[cZ] at hv
  rw[←hv]
  exact h.snap
 |2,hv=>
  simp[cZ] at hv
  rw[←hv]
  exact h.cnt
 |j+3,hv=>
  have hv':(aZ S.wr S.tm++[Fz S.mks])[j]?=some v:=by simpa only [cZ,List.getElem?_cons_succ] using hv
  rw[show o+(j+3)=o+3+j by omega]
  by_cases hj:j<240
  ·rw[List.getElem?_append_left (by rw[dW];exact hj)] at hv'
   exact h.writes j v hv'
  ·rw[List.getElem?_append_right (by rw[dW];omega),dW] at hv'
   have e:j=240:=by
    have:=(List.getElem?_eq_some_iff.1 hv').1
    simp at this
    omega
   subst e
   simp at hv'
   rw[←hv']
   exact h.mks
theorem cJ.of {w:World}{b o:Nat}{S:aK}(h:w.rangeAt b o (cZ S))(hk:S.ok):cJ w b o S:=by
 have hw:∀ j v,(aZ S.wr S.tm)[j]?=some v→w.cell? ⟨b,o+3+j,none⟩=some v:=fun j v hv=>by
  have hj:j<(aZ S.wr S.tm).length:=(List.getElem?_eq_some_iff.1 hv).1
  have:=h (j+3) v (by
   show (aZ S.wr S.tm++[Fz S.mks])[j]?=some v
   rw[List.getElem?_append_left hj]
   exact hv)
  rw[show o+(j+3)=o+3+j by omega] at this
  exact this
 exact⟨h 0 _ rfl,h 1 _ rfl,h 2 _ rfl,fun c hc=>hw _ _ (dX S.wr S.tm hc).1,fun c hc=>hw _ _ (dX S.wr S.tm hc).2.1,fun c hc=>hw _ _ (dX S.wr S.tm hc).2.2.1,fun c hc=>hw _ _ (dX S.wr S.tm hc).2.2.2,h 243 _ (by
  show (aZ S.wr S.tm++[Fz S.mks])[240]?=some (Fz S.mks)
  rw[List.getElem?_append_right (by rw[dW];omega),dW]
  rfl),hk⟩
theorem FY (n t:Int):(aK.new n t).ok:=⟨Int.le_refl 0,rfl⟩
theorem tz:aK.zero.ok:=⟨Int.le_refl 0,rfl⟩
theorem kA.setCells {w:World}{b a n:Nat}:∀ (vs:List Value) (o:Nat) {w':World},a≤o→o+vs.length≤a+n→kA w w' b a n→kA w (w'.setCells b o vs) b a n
 |[],_,_,_,_,h=>h
 |v::vs,o,_,h1,h2,h=>kA.setCells vs (o+1) (by omega) (by simp at h2;omega) (h.set h1 (by simp at h2;omega) v)
theorem jq.there {w:World}{x:Nat}{X:ap}{kv:Nat→Value}(h:jq w x X kv){k:Nat}(hk:k<8):w.there x (3+k*244) 244:=by
 intro j hj
 obtain⟨cs,hb⟩:=h.block
 refine⟨?_,ai hb _⟩
 exact World.rangeAt.isSome (h.ses k hk).range j (by rw[b7];exact hj)
theorem jq.lay {w:World}{x:Nat}{X:ap}{kv:Nat→Value}(h:jq w x X kv){k:Nat}(hk:k<8)(S':aK)(hk':S'.ok):jq (w.setCells x (3+k*244) (cZ S')) x (X.setSes k S') kv∧Fr [x] w (w.setCells x (3+k*244) (cZ S')):=by
 have hc:kA w (w.setCells x (3+k*244) (cZ S')) x (3+k*244) 244:=kA.setCells _ _ (Nat.le_refl _) (by rw[b7];omega) (kA.refl _ _ _ _)
 exact⟨h.setSes hk (.of (World.rangeAt_setCells_same _ _ _ _ (by rw[b7];exact h.there hk)) hk') hc,hc.fr⟩
theorem iP:Tryz.zeroCells85.toList=cZ .zero:=by kernel_rfl
theorem gb {P:Program}(w:World)(b o:Nat)(cs:List Value)(ht:w.there b o cs.length)(h1:∀ v∈cs,v.oneCell'=true):(storeCells ⟨b,o,none⟩ cs 0).run P w=.ok () (w.setCells b o cs):=by
 have:=run_storeCells_cells (P:=P) b o cs 0 w (fun j hj=>by simpa using (ht j hj).1) (fun j hj=>by simpa using (ht j hj).2) h1
 simpa using this
theorem xv (x:Nat)(X:ap)(kv:Nat→Value)(n:Int)(w:World)(h:jq w x X kv):
  Calls Tryz.prog 22 #[.pointer (some ⟨x,0,none⟩),.int .i64 n] w fun e w'=>e=.returned (.int .i64 (aY X n).1)∧gN x (aY X n).2 kv w w':=by
 have HF:=af (eX x X n w h.ses)
 have HP:=af h
 unfold aY
 cases hf:aM X n with
 |none=>
  rw[hf] at HF
  clear h hf
  go_enter Tryz.func22,Tryz.ntmps22
  go_wp2_with fail
  go_at_call 36
  refine HF.out.mono ?_
  rintro e w' ⟨rfl,rfl⟩
  simp only[dn]
  go_wp2
  go_ret
  exact⟨rfl,gN.same HP.out⟩
 |some k=>
  rw[hf] at HF
  have hk:k<8:=by
   unfold aM at hf
   split at hf
   ·cases hf
   ·exact (bu hf).1
  simp only[]
  have HL:=af (h.lay hk .zero tz)
  have hst:=gb (P:=Tryz.prog) w x (3+k*244) Tryz.zeroCells85.toList (by rw[iP,b7];exact h.there hk) (by rw[iP];exact ki _)
  rw[←iP] at HL
  clear h hf
  go_enter Tryz.func22,Tryz.ntmps22
  go_wp2_with fail
  go_at_call 36
  refine HF.out.mono ?_
  rintro e w' ⟨rfl,rfl⟩
  simp only[dn]
  go_wp2_with fail
  go_ret
  exact⟨rfl,HL.out⟩
theorem BF (x:Nat)(X:ap)(kv:Nat→Value)(w:World)(h:jq w x X kv)(ho:0≤X.opened∧X.opened<9223372036854775807):
  Calls Tryz.prog 14 #[.pointer (some ⟨x,0,none⟩)] w fun e w'=>e=.returned (.tuple #[.int .i64 (a8 X).1.1,.int .i64 (a8 X).1.2])∧gN x (a8 X).2 kv w w':=by
 have HF:=af (nk x X 0 w h.ses)
 have HP:=af h
 unfold a8
 cases hf:bd X 0 with
 |none=>
  rw[hf] at HF
  clear h hf ho
  go_enter Tryz.func14,Tryz.ntmps14
  go_wp2_with fail
  go_at_call 35
  refine HF.out.mono ?_
  rintro e w' ⟨rfl,rfl⟩
  simp only[dn]
  go_wp2
  go_ret2
  exact⟨rfl,gN.same HP.out⟩
 |some k=>
  rw[hf] at HF
  have hk:k<8:=(bu hf).1
  simp only[]
  obtain⟨cs,hb⟩:=h.block
  have c2:=h.opened
  have z2:=ai hb 2
  have c3:=h.store.latest
  have hch:kA w (w.setCell ⟨x,2,none⟩ (.int .i64 (X.opened+1))).drew x 2 1:=((kA.refl w x 2 1).set (by omega) (by omega) _).drewN 1
  have hP1:jq (w.setCell ⟨x,2,none⟩ (.int .i64 (X.opened+1))).drew x { X with opened:=X.opened+1 } kv:=by
   refine⟨hch.blk hb,(hch.cell _ (by omega)).trans h.rules,(hch.cell _ (by omega)).trans h.room,?_,fun j hj=>(h.ses j hj).other hch (by omega),?_⟩
   ·show World.cell? (World.setCell _ _ _) _=_
    rw[World.cell?_setCell_same _ _ _ h.opened]
   ·have:=h.store.other hch (by omega)
    exact⟨this.latest,this.last,this.kept⟩
  have hL:(Tryz.zeroCells85.toList.set 0 (.int .i64 (X.opened+1))).set 1 (.int .i64 X.latest)=cZ (.new (X.opened+1) X.latest):=by rw[iP];rfl
  have hlay:=hP1.lay hk (.new (X.opened+1) X.latest) (FY _ _)
  have hst:=gb (P:=Tryz.prog) (w.setCell ⟨x,2,none⟩ (.int .i64 (X.opened+1))).drew x (3+k*244) ((Tryz.zeroCells85.toList.set 0 (.int .i64 (X.opened+1))).set 1 (.int .i64 X.latest)) (by rw[hL,b7];exact hP1.there hk) (by rw[hL];exact ki _)
  have c4:((w.setCell ⟨x,2,none⟩ (.int .i64 (X.opened+1))).drew.setCells x (3+k*244) ((Tryz.zeroCells85.toList.set 0 (.int .i64 (X.opened+1))).set 1 (.int .i64 X.latest))).cell? ⟨x,2,none⟩=some (.int .i64 (X.opened+1)):=by rw[hL];exact hlay.1.opened
  rw[←hL] at hlay
  have HL:Hid (gN x { X with opened:=X.opened+1,ses:=cI X.ses k (.new (X.opened+1) X.latest) } kv w ((w.setCell ⟨x,2,none⟩ (.int .i64 (X.opened+1))).drew.setCells x (3+k*244) ((Tryz.zeroCells85.toList.set 0 (.int .i64 (X.opened+1))).set 1 (.int .i64 X.latest)))):=af ⟨hlay.1,hch.fr.trans hlay.2⟩
  clear hlay hL hP1 hch
  obtain⟨op,hop⟩:∃ op,op=X.opened:=⟨_,rfl⟩
  obtain⟨lt,hlt⟩:∃ lt,lt=X.latest:=⟨_,rfl⟩
  rw[←hop] at c2 ho hst c4 HL ⊢
  rw[←hlt] at c3 hst c4 HL ⊢
  obtain⟨ho1,ho2⟩:=ho
  clear h hf hb hop hlt
  go_enter Tryz.func14,Tryz.ntmps14
  go_wp2_with fail
  go_at_call 35
  refine HF.out.mono ?_
  rintro e w' ⟨rfl,rfl⟩
  simp only[dn]
  go_wp2_with fail
  go_region
  all_goals go_wp2_with fail
  all_goals go_ret2
  all_goals exact⟨rfl,HL.out⟩
def ia (v:Value)(h:List (Int×Option Int)):eM:=bk 137 3 v h.length (cu h)
theorem ia.framed (v:Value)(h:List (Int×Option Int)):bV (ia v h):=bk.framed _ _ _ _ _
theorem ia.within (v:Value)(h:List (Int×Option Int)):bW (ia v h):=bk.within _ _ _ _ _
def oU (kv:Nat→Value)(x:Nat)(X:ap):eM:=fun w f=>jq w x X kv∧∃ f2,aA ia ((List.range 60).map kv) ((List.range 60).map X.hist) w f2∧f=x::f2
def aV (x:Nat)(X:ap):eM:=fun w f=>∃ kv,oU kv x X w f
theorem yF {w w':World}{S:List Nat}(h:Fr S w w'){b:Nat}(hb:b<w.heap.size)(hs:b∉S)(i:Nat):w'.cell? ⟨b,i,none⟩=w.cell? ⟨b,i,none⟩:=by simp only[World.cell?,h.block b hb hs]
theorem jq.fr {w w':World}{x:Nat}{X:ap}{kv:Nat→Value}{S:List Nat}(h:jq w x X kv)(hf:Fr S w w')(hs:x∉S):jq w' x X kv:=by
 have hl:=h.lt
 obtain⟨cs,hb⟩:=h.block
 have e:=yF hf hl hs
 exact⟨⟨cs,(hf.block x hl hs).trans hb⟩,(e _).trans h.rules,(e _).trans h.room,(e _).trans h.opened,fun k hk=>(h.ses k hk).fr hf hl hs,⟨(e _).trans h.store.latest,fun c hc=>(e _).trans (h.store.last c hc),fun c hc=>(e _).trans (h.store.kept c hc)⟩⟩
theorem oU.framed (kv:Nat→Value)(x:Nat)(X:ap):bV (oU kv x X):=by
 rintro S w w' f ⟨h1,f2,h2,rfl⟩ hf hs
 exact⟨h1.fr hf (hs x (by simp)),f2,aA.framed ia.framed _ _ h2 hf (fun g hg=>hs g (by simp[hg])),rfl⟩
theorem aV.framed (x:Nat)(X:ap):bV (aV x X):=by
 rintro S w w' f ⟨kv,h⟩ hf hs
 exact⟨kv,oU.framed kv x X h hf hs⟩
theorem aV.within (x:Nat)(X:ap):bW (aV x X):=by
 rintro w f ⟨kv,h1,f2,h2,rfl⟩ g hg
 rcases List.mem_cons.mp hg with rfl|hg
 ·exact h1.lt
 ·exact aA.within ia.within _ _ h2 g hg
theorem oU.rows {kv:Nat→Value}{x:Nat}{X:ap}{w:World}{f:List Nat}(h:oU kv x X w f):oC w X kv:=by
 obtain⟨_,f2,h2,_⟩:=h
 intro c hc
 obtain⟨g,h3,_⟩:=aA.get h2 c (by simpa using hc) (by simpa using hc)
 simp only[List.getElem_map,List.getElem_range] at h3
 exact h3.1
def bP (P:eM)(f:List Nat)(w w':World):Prop:=∃ f',P w' f'∧f'.Nodup∧(∀ x∈f',x∈f∨w.heap.size≤x)∧Fr f w w'
theorem gN.to {x:Nat}{X X':ap}{kv:Nat→Value}{w w':World}{f:List Nat}(h:oU kv x X w f)(hn:f.Nodup)(hh:X'.hist=X.hist)(hp:gN x X' kv w w'):bP (aV x X') f w w':=by
 obtain⟨h1,f2,h2,rfl⟩:=h
 rw[List.nodup_cons] at hn
 refine⟨x::f2,⟨kv,hp.1,f2,?_,rfl⟩,by rw[List.nodup_cons];exact hn,fun k hk=>.inl hk,hp.2.mono (fun k hk=>.inl (by simp at hk;simp[hk]))⟩
 rw[hh]
 exact aA.framed ia.framed _ _ h2 hp.2 (fun k hk hs=>by simp at hs;exact hn.1 (hs▸hk))
theorem bP.before {P:eM}{f:List Nat}{w w0 w':World}(h:bP P f w0 w')(hf:Fr [] w w0):bP P f w w':=by
 obtain⟨f',a,n,s,r⟩:=h
 refine⟨f',a,n,fun k hk=>?_,(hf.mono (fun k hk=>by cases hk)).trans r⟩
 rcases s k hk with h|h
 ·exact .inl h
 ·exact .inr (Nat.le_trans hf.size h)
theorem bF {w0 w1:World}{f:List Nat}(hf:Fr f w0 w1){b i:Nat}{v:Value}(h:w0.cell? ⟨b,i,none⟩=some v)(hn:b∉f):w1.cell? ⟨b,i,none⟩=some v:=by
 rw[yF hf (World.block_lt_of_cell? w0 _ h) hn];exact h
theorem aB (w:World)(o:Obj):Fr [] w (w.alloc o):=(Fr.refl [] w).alloc o
theorem au {w w':World}(h:Fr [] w w'):Fr [] w w'.drew:=h.drewN 1
theorem bP.refl {x:Nat}{X:ap}{f:List Nat}{w w':World}(h:aV x X w f)(hn:f.Nodup)(hf:Fr [] w w'):bP (aV x X) f w w':=⟨f,aV.framed _ _ h hf (by simp),hn,fun _ hx=>.inl hx,hf.mono (fun k hk=>by cases hk)⟩
theorem eR {w:World}{cs:Array Value}{t:TypeId}{j:Nat}{v:Value}(h:cs[j]?=some v):(w.alloc (.cells cs t)).cell? ⟨w.heap.size,j,none⟩=some v:=by rw[cell_of_row _ _ _ _ _ _ (heap_alloc_new w _)];exact h
theorem aE {w w0:World}(hf:Fr [] w w0){b i:Nat}{v:Value}(h:w.cell? ⟨b,i,none⟩=some v):w0.cell? ⟨b,i,none⟩=some v:=bF hf h (by simp)
end Go.Proofs.YthlhbjnkohinmabGreat
