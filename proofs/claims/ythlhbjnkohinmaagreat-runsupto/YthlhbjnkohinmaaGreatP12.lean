import Derived.Test.YthlhbjnkohinmaaGreatP11
import Derived.Test.YthlhbjnkohinmaaGreatP09
namespace Go.Proofs.YthlhbjnkohinmaaGreat
set_option maxRecDepth 100000
set_option maxHeartbeats 8000000
open Go.RowKit
theorem fH {α:Type}{m:Nat}{f:Nat→List α}(hf:∀ c,(f c).length=m):∀ n,((List.range n).flatMap f).length=n*m
 |0=>by simp
 |n+1=>by rw[List.range_succ,List.flatMap_append,List.length_append,fH hf n];simp[hf,Nat.add_mul]
theorem qp {α:Type}{m:Nat}{f:Nat→List α}(hf:∀ c,(f c).length=m){c j:Nat}(hj:j<m):∀ n,c<n→((List.range n).flatMap f)[c*m+j]?=(f c)[j]?
 |0,h=>by omega
 |n+1,h=>by
  rw[List.range_succ,List.flatMap_append]
  by_cases e:c=n
  ·subst e
   rw[List.getElem?_append_right (by rw[fH hf];omega),fH hf]
   simp
  ·have h1:c*m+j<n*m:=by
    have:(c+1)*m≤n*m:=Nat.mul_le_mul_right m (by omega)
    rw[Nat.add_mul] at this
    omega
   rw[List.getElem?_append_left (by rw[fH hf];exact h1)]
   exact qp hf hj n (by omega)
def X0 (r:Ej):ap:=⟨r,0,fun _=>.zero,0,fun _=>0,fun _=>[]⟩
def Gh:Nat→Value:=fun _=>.slice none 0 0
def iw:List Value:=[.slice none 0 0,.int .i64 0,.int .i64 0]++((List.range 8).flatMap (fun _=>c8 .zero)++(.int .i64 0::(List.range 60).flatMap (fun _=>[.int .i64 0,.slice none 0 0])))
theorem uN:Tryz.zeroCells91.toList=iw:=by kernel_rfl
theorem uI {k j:Nat}(hk:k<8)(hj:j<244):iw[3+k*244+j]?=(c8 .zero)[j]?:=by
 unfold iw
 rw[List.getElem?_append_right (by simp;omega),List.getElem?_append_left (by rw[fH (fun _=>b6 _)];simp;omega)]
 have:=qp (f:=fun _=>c8 .zero) (m:=244) (fun _=>b6 _) (c:=k) (j:=j) hj 8 hk
 rw[←this]
 congr 1
 simp
 omega
theorem pM:iw[1955]?=some (.int .i64 0):=by
 unfold iw
 rw[List.getElem?_append_right (by simp),List.getElem?_append_right (by rw[fH (fun _=>b6 _)];simp),fH (fun _=>b6 _)]
 rfl
theorem nj {c j:Nat}(hc:c<60)(hj:j<2):iw[1955+1+c*2+j]?=([.int .i64 0,.slice none 0 0]:List Value)[j]?:=by
 unfold iw
 rw[List.getElem?_append_right (by simp;omega),List.getElem?_append_right (by rw[fH (fun _=>b6 _)];simp;omega),fH (fun _=>b6 _)]
 have:=qp (f:=fun _=>([.int .i64 0,.slice none 0 0]:List Value)) (m:=2) (fun _=>rfl) (c:=c) (j:=j) hj 60 hc
 rw[←this,show 1955+1+c*2+j - [Value.slice none 0 0,Value.int .i64 0,Value.int .i64 0].length - 8*244=c*2+j+1 by simp;omega]
 rfl
theorem r8 (r:Ej)(w:World):∀ l:List Nat,aB ig (l.map Gh) (l.map (X0 r).hist) w []
 |[]=>rfl
 |_::l=>⟨[],[],bp.nil _ _ _,r8 r w l,rfl⟩
theorem xQ {w:World}{g:Nat}{v:Value}{u:Int}(r:ByteArray×List (Nat×List Nat×List Nat))(hb:w.heap[g]?=some (.cells ((Tryz.zeroCells91.setIfInBounds 0 v).setIfInBounds 1 (.int .i64 u)) 91 (0,0))):aV g (X0 ((v,u),r)) w [g]:=by
 have hc:∀ i,2≤i→w.cell? ⟨g,i,none⟩=iw[i]?:=by
  intro i hi
  rw[cell_of_row _ _ _ _ _ _ hb,Array.getElem?_setIfInBounds_ne (by omega),Array.getElem?_setIfInBounds_ne (by omega),←uN]
  simp
 have hz:1<Tryz.zeroCells91.size:=by
  have:=congrArg List.length uN
  simp only[Array.length_toList] at this
  rw[this]
  simp[iw]
 refine⟨Gh,⟨⟨_,hb⟩,?_,?_,?_,?_,?_⟩,[],?_,rfl⟩
 ·rw[cell_of_row _ _ _ _ _ _ hb,Array.getElem?_setIfInBounds_ne (by omega),Array.getElem?_setIfInBounds_self_of_lt (by omega)]
  rfl
 ·rw[cell_of_row _ _ _ _ _ _ hb,Array.getElem?_setIfInBounds_self_of_lt (by simp)]
  rfl
 ·rw[hc 2 (by omega)];rfl
 ·intro k hk
  refine .of (fun j v hv=>?_) tv
  have hj:j<244:=by
   have:=(List.getElem?_eq_some_iff.1 hv).1
   rw[b6] at this
   exact this
  rw[hc _ (by omega),uI hk hj]
  exact hv
 ·refine⟨?_,fun c hcl=>?_,fun c hcl=>?_⟩
  ·rw[hc 1955 (by omega)];exact pM
  ·rw[hc _ (by omega)];exact nj (j:=0) hcl (by omega)
  ·rw[hc _ (by omega)];exact nj (j:=1) hcl (by omega)
 ·exact r8 _ w _
theorem iu {α β:Type}{f:α→β}:∀ {l:List α},(l.map f).Nodup→∀ {a b:α},a∈l→b∈l→f a=f b→a=b
 |[],_,_,_,h,_,_=>by cases h
 |x::l,h,a,b,ha,hb,he=>by
  rw[List.map_cons,List.nodup_cons] at h
  rcases List.mem_cons.mp ha with e1|h1 <;> rcases List.mem_cons.mp hb with e2|h2
  ·rw[e1,e2]
  ·exact absurd (List.mem_map.mpr ⟨b,h2,by rw[←he,e1]⟩) h.1
  ·exact absurd (List.mem_map.mpr ⟨a,h1,by rw[he,e2]⟩) h.1
  ·exact iu h.2 h1 h2 he
theorem eL:∀ {l m:List Nat} ,l.Nodup→(∀ x∈l,x∈m)→l.length≤m.length
 |[],_,_,_=>Nat.zero_le _
 |a::l,m,hn,hs=>by
  rw[List.nodup_cons] at hn
  have h1:a∈m:=hs a (by simp)
  have h2:=eL (l:=l) (m:=m.erase a) hn.2 (fun x hx=>by
   have hx2:=hs x (by simp[hx])
   have:x≠a:=fun e=>hn.1 (e▸hx)
   exact (List.mem_erase_of_ne this).mpr hx2)
  rw[List.length_erase_of_mem h1] at h2
  have:0<m.length:=List.length_pos_of_mem h1
  simp only[List.length_cons]
  omega
theorem dJ {α β:Type}{f g:α→Option β}:∀ {l:List α},(∀ x∈l,f x=g x)→l.filterMap f=l.filterMap g
 |[],_=>rfl
 |x::l,h=>by
  have h1:=h x (by simp)
  have h2:=dJ (l:=l) (fun y hy=>h y (by simp[hy]))
  simp only[List.filterMap_cons,h1,h2]
theorem oy (h:List (Int×Option Int))(p:Int×Option Int)(t:Int):i8 (h++[p]) t=if p.1≤t then p.2 else i8 h t:=by
 unfold i8
 simp only[List.reverse_append,List.reverse_cons,List.reverse_nil,List.nil_append,List.singleton_append,List.find?_cons]
 by_cases e:p.1≤t
 ·simp[e]
 ·simp[e]
theorem eK (h:List (Int×Option Int))(p:Int×Option Int)(t:Int):aN (h++[p]) t=if p.1≤t then p else aN h t:=by
 unfold aN
 simp only[List.reverse_append,List.reverse_cons,List.reverse_nil,List.nil_append,List.singleton_append,List.find?_cons]
 by_cases e:p.1≤t
 ·simp[e]
 ·simp[e]
abbrev gw:=List (Int×Option Int)
def jP (h:gw)(t:Int)(p:Int×Option Int):Bool:=decide (t<p.1)||(decide (p.1=(aN h t).1)&&p.2.isSome)
def dz (h:gw)(t:Int):gw:=h.filter (jP h t)
structure wz (h:gw):Prop where
 ord:h.Pairwise (fun p q=>p.1<q.1)
 pos:∀ p∈h,1≤p.1
def wC (h:gw)(t:Int):gw:=h.filter fun p=>decide (p.1≤t)
def Fv (h:gw)(t:Int):gw:=h.filter fun p=>decide (t<p.1)
theorem wz.sub {h g:gw}(hi:wz h)(hs:g.Sublist h):wz g:=⟨hi.ord.sublist hs,fun p hp=>hi.pos p (hs.subset hp)⟩
theorem wz.swept {h:gw}(hi:wz h)(t:Int):wz (dz h t):=hi.sub List.filter_sublist
theorem EB:wz []:=⟨List.Pairwise.nil,fun p hp=>by cases hp⟩
theorem wz.snoc {h:gw}(hi:wz h){p:Int×Option Int}(hp:∀ q∈h,q.1<p.1)(h1:1≤p.1):wz (h++[p]):=by
 refine⟨?_,fun q hq=>?_⟩
 ·rw[List.pairwise_append]
  refine⟨hi.ord,List.pairwise_singleton _ _,fun a ha b hb=>?_⟩
  rw[List.mem_singleton] at hb
  rw[hb]
  exact hp a ha
 ·rcases List.mem_append.mp hq with hq|hq
  ·exact hi.pos q hq
  ·rw[List.mem_singleton] at hq
   rw[hq]
   exact h1
theorem tM:∀ {h:gw} ,h.Pairwise (fun p q=>p.1<q.1)→∀ t,h=wC h t++Fv h t
 |[],_,_=>rfl
 |p::h,hi,t=>by
  rw[List.pairwise_cons] at hi
  have ih:=tM hi.2 t
  unfold wC Fv at*
  by_cases e:p.1≤t
  ·rw[List.filter_cons_of_pos (by simpa using e),List.filter_cons_of_neg (by simp;omega),List.cons_append,←ih]
  ·have h0:h.filter (fun p=>decide (p.1≤t))=[]:=by
    rw[List.filter_eq_nil_iff]
    intro q hq
    have:=hi.1 q hq
    simp
    omega
   rw[List.filter_cons_of_neg (by simpa using e),List.filter_cons_of_pos (by simp;omega),h0,List.nil_append]
   rw[h0,List.nil_append] at ih
   rw[←ih]
theorem mU (h:gw)(t:Int):aN h t=(wC h t).getLast?.getD (0,none):=by
 unfold aN wC
 rw[←List.head?_reverse,←List.filter_reverse,List.head?_filter]
 cases h.reverse.find? (fun p=>decide (p.1≤t)) <;> rfl
def p7 (p:Int×Option Int):gw:=if p.2.isSome then [p] else []
theorem DG {h:gw}(hi:wz h)(t:Int):dz h t=p7 (aN h t)++Fv h t:=by
 have hs:=tM hi.ord t
 have h1:(Fv h t).filter (jP h t)=Fv h t:=by
  rw[List.filter_eq_self]
  intro p hp
  have:=(List.mem_filter.mp hp).2
  unfold jP
  simp only[decide_eq_true_eq] at this
  simp[this]
 have h2:(wC h t).filter (jP h t)=p7 (aN h t):=by
  have hp:(wC h t).Pairwise (fun p q=>p.1<q.1):=hi.ord.sublist List.filter_sublist
  have hle:∀ p∈wC h t,¬t<p.1:=fun p hp=>by
   have:=(List.mem_filter.mp hp).2
   simp at this
   omega
  have hv:=mU h t
  rcases List.eq_nil_or_concat (wC h t) with e|⟨A,q,e⟩
  ·rw[e] at hv ⊢
   rw[hv]
   rfl
  ·rw[List.concat_eq_append] at e
   rw[e] at hv hp hle ⊢
   have hq:aN h t=q:=by rw[hv];simp
   rw[List.filter_append,hq]
   rw[List.pairwise_append] at hp
   have h0:A.filter (jP h t)=[]:=by
    rw[List.filter_eq_nil_iff]
    intro p hpA
    have a1:=hp.2.2 p hpA q (by simp)
    have a2:=hle p (by simp[hpA])
    unfold jP
    rw[hq]
    simp[a2]
    omega
   rw[h0,List.nil_append]
   have a3:=hle q (by simp)
   unfold p7
   simp only[List.filter_cons,List.filter_nil,jP,hq]
   simp[a3]
 conv=>lhs;unfold dz
 conv=>lhs;arg 2;rw[hs]
 rw[List.filter_append,h1,h2]
def e7 (p q:Int×Option Int):Prop:=p.2=q.2∧(p.2.isSome=true→p=q)
theorem e7.refl (p:Int×Option Int):e7 p p:=⟨rfl,fun _=>rfl⟩
theorem e7.trans {p q r:Int×Option Int}(h:e7 p q)(k:e7 q r):e7 p r:=⟨h.1.trans k.1,fun e=>(h.2 e).trans (k.2 (by rw[←h.1];exact e))⟩
theorem F7 {h:gw}{t u:Int}(htu:t≤u)(hi:h.Pairwise (fun p q=>p.1<q.1)):wC h u=wC h t++wC (Fv h t) u:=by
 conv=>lhs;rw[tM hi t]
 unfold wC
 rw[List.filter_append]
 congr 1
 rw[List.filter_filter]
 apply List.filter_congr
 intro p _
 by_cases e:p.1≤t
 ·have:p.1≤u:=by omega
  simp[e,this]
 ·simp[e]
theorem As {p:Int×Option Int}(q:Int×Option Int)(hq:q.2=none):e7 ((p7 p).getLast?.getD q) p:=by
 unfold p7
 cases hp:p.2 with
 |none=>
  simp only[Option.isSome_none,Bool.false_eq_true,if_false,List.getLast?_nil,Option.getD_none]
  exact⟨by rw[hq,hp],fun e=>by rw[hq] at e;cases e⟩
 |some v=>
  simp only[Option.isSome_some,if_true,List.getLast?_singleton,Option.getD_some]
  exact .refl _
theorem xR {h:gw}(hi:wz h){t u:Int}(htu:t≤u):e7 (aN (dz h t) u) (aN h u):=by
 have e1:wC (dz h t) u=p7 (aN h t)++wC (Fv h t) u:=by
  rw[DG hi t]
  unfold wC
  rw[List.filter_append]
  congr 1
  rw[List.filter_eq_self]
  intro p hp
  unfold p7 at hp
  split at hp
  ·rename_i hs
   rw[List.mem_singleton] at hp
   subst hp
   have:(aN h t).1≤t:=by
    unfold aN at hs ⊢
    cases hf:h.reverse.find? (fun p=>decide (p.1≤t)) with
    |none=>rw[hf] at hs;cases hs
    |some q=>
     have:=List.find?_some hf
     simpa using this
   simp
   omega
  ·cases hp
 have e2:=F7 htu hi.ord
 rw[mU (dz h t) u,mU h u,e1,e2]
 rcases List.eq_nil_or_concat (wC (Fv h t) u) with e|⟨A,q,e⟩
 ·rw[e,List.append_nil,List.append_nil,←mU h t]
  exact As _ rfl
 ·rw[List.concat_eq_append] at e
  rw[e,←List.append_assoc,←List.append_assoc]
  simp only[List.getLast?_append,List.getLast?_singleton,Option.some_or,Option.getD_some]
  exact .refl _
theorem ug (h:gw)(t:Int):(dz h t).length≤h.length:=List.length_filter_le _ _
def ap.swept (X:ap)(t:Int):ap:={ X with hist:=fun c=>dz (X.hist c) t }
def cP (X:ap):Nat→Int
 |0=>X.latest
 |k+1=>if 0<(X.ses k).num∧(X.ses k).snap<cP X k then (X.ses k).snap else cP X k
def cn (X:ap):Int×ap:=((keptN X 60:Int) - (keptN (X.swept (cP X 8)) 60:Int),X.swept (cP X 8))
theorem gV (X:ap)(t:Int):∀ n,keptN (X.swept t) n≤keptN X n
 |0=>Nat.le_refl 0
 |n+1=>by
  have:=gV X t n
  have h2:=ug (X.hist n) t
  unfold keptN
  show keptN (X.swept t) n+(dz (X.hist n) t).length≤_
  omega
def cL (X:ap)(m:Nat):Bool×ap:=if ((keptN X 60+m:Nat):Int)≤X.room then (true,X) else (decide (((keptN (X.swept (cP X 8)) 60+m:Nat):Int)≤X.room),X.swept (cP X 8))
def bI (X:ap)(n:Int):(Int×Int)×ap:=match aM X n with
 |none=>((0,6),X)
 |some k=>if kH (X.ses k) then (if clash X (X.ses k) then ((0,10),X.setSes k .zero) else (if (cL X (cw (X.ses k) 60)).1 then ((X.latest+1,0),((cL X (cw (X.ses k) 60)).2.setSes k .zero).commit (X.ses k)) else ((0,11),(cL X (cw (X.ses k) 60)).2))) else ((0,0),X.setSes k .zero)
def aJ.bare (S:aJ):aJ:={ S with mks:=none }
def ap.plain (X:ap):ap:={ X with src:=((.bool false,X.src.1.2),X.src.2),ses:=fun k=>(X.ses k).bare }
abbrev dP:=Nat→Nat→Option Int
def t8:Nat→Option Int:=fun _=>none
def cz (X X':ap)(F:dP):dP:=fun k=>if (X'.ses k).num=(X.ses k).num then F k else t8
def jG (X X':ap):Prop:=∀ k,k<8→((X'.ses k).num=(X.ses k).num→(X'.ses k).mks=(X.ses k).mks)∧((X'.ses k).num≠(X.ses k).num→(X'.ses k).mks=none)
theorem jG.same {X X':ap}(h:X'.ses=X.ses):jG X X':=fun k _=>⟨fun _=>by rw[h],fun e=>absurd (by rw[h]) e⟩
theorem jG.set {X X':ap}{k:Nat}{S:aJ}(h:X'.ses=cI X.ses k S)(h1:S.num=(X.ses k).num→S.mks=(X.ses k).mks)(h2:S.num≠(X.ses k).num→S.mks=none):jG X X':=by
 intro j _
 rw[h]
 by_cases e:j=k
 ·subst e
  rw[aW]
  exact⟨h1,h2⟩
 ·rw[bF _ _ _ e]
  exact⟨fun _=>rfl,fun c=>absurd rfl c⟩
theorem eM (X:ap)(k:Nat)(S:aJ):(X.setSes k S).plain=X.plain.setSes k S.bare:=by
 unfold ap.plain ap.setSes
 congr 1
 funext j
 simp only[cI]
 split <;> rfl
theorem eb {X:ap}{n:Int}{k:Nat}(h:aM X n=some k):k<8∧(X.ses k).num=n∧1≤n:=by
 unfold aM at h
 split at h
 ·cases h
 ·obtain⟨h1,h2⟩:=bx h
  exact⟨h1,h2,by omega⟩
theorem oP (X:ap)(ho:0≤X.opened):(a8 X).1=(a8 X.plain).1∧(a8 X).2.plain=(a8 X.plain).2∧(a8 X).2.src=X.src∧jG X (a8 X).2:=by
 have e:ba X.plain 0=ba X 0:=rfl
 unfold a8
 rw[e]
 cases hf:ba X 0 with
 |none=>exact⟨rfl,rfl,rfl,.same rfl⟩
 |some k=>
  obtain⟨_,h0⟩:=bx hf
  refine⟨rfl,?_,rfl,.set (k:=k) (S:=.new (X.opened+1) X.latest) rfl (fun h=>?_) (fun _=>rfl)⟩
  ·unfold ap.plain
   simp only[]
   congr 1
   funext j
   simp only[cI]
   split <;> rfl
  ·have:X.opened+1=0:=by rw[←h0];exact h
   omega
theorem qo (X:ap)(n:Int)(s:ByteArray):(cq X n s).1=(cq X.plain n s).1∧(cq X n s).2.plain=(cq X.plain n s).2∧(cq X n s).2.src=X.src∧jG X (cq X n s).2:=by
 have e:aM X.plain n=aM X n:=rfl
 unfold cq
 rw[e]
 cases hf:aM X n with
 |none=>exact⟨rfl,rfl,rfl,.same rfl⟩
 |some k=>
  cases eR s with
  |false=>exact⟨rfl,rfl,rfl,.same rfl⟩
  |true=>exact⟨rfl,eM _ _ _,rfl,.set rfl (fun _=>rfl) (fun h=>absurd rfl h)⟩
theorem mK (X:ap)(n:Int)(s:ByteArray):(aX X n s).1=(aX X.plain n s).1∧(aX X n s).2.plain=(aX X.plain n s).2∧(aX X n s).2.src=X.src∧jG X (aX X n s).2:=by
 have e:aM X.plain n=aM X n:=rfl
 unfold aX
 rw[e]
 cases hf:aM X n with
 |none=>exact⟨rfl,rfl,rfl,.same rfl⟩
 |some k=>
  cases eE s with
  |false=>exact⟨rfl,rfl,rfl,.same rfl⟩
  |true=>exact⟨rfl,eM _ _ _,rfl,.set rfl (fun _=>rfl) (fun h=>absurd rfl h)⟩
theorem nC {X X':ap}{n:Int}{k:Nat}(hf:aM X n=some k)(h:X'.ses=cI X.ses k .zero):jG X X':=by
 obtain⟨_,h1,h2⟩:=eb hf
 refine .set h (fun e=>?_) (fun _=>rfl)
 have:(0:Int)=(X.ses k).num:=e
 omega
theorem na (X:ap)(n:Int):(aY X n).1=(aY X.plain n).1∧(aY X n).2.plain=(aY X.plain n).2∧(aY X n).2.src=X.src∧jG X (aY X n).2:=by
 have e:aM X.plain n=aM X n:=rfl
 unfold aY
 rw[e]
 cases hf:aM X n with
 |none=>exact⟨rfl,rfl,rfl,.same rfl⟩
 |some k=>exact⟨rfl,eM _ _ _,rfl,nC hf rfl⟩
theorem fY (X:ap)(n:Nat):keptN X.plain n=keptN X n:=eJ (X:=X) (Y:=X.plain) rfl n
theorem nY (X:ap):∀ k,cP X.plain k=cP X k
 |0=>rfl
 |k+1=>by
  unfold cP
  rw[nY X k]
  rfl
theorem oM (X:ap)(t:Int):(X.swept t).plain=X.plain.swept t:=rfl
theorem mM (X:ap):(cn X).1=(cn X.plain).1∧(cn X).2.plain=(cn X.plain).2∧(cn X).2.src=X.src∧jG X (cn X).2:=by
 unfold cn
 rw[nY,fY,←oM,fY]
 exact⟨rfl,rfl,rfl,.same rfl⟩
theorem ss (S:aJ):∀ n,cw S.bare n=cw S n
 |0=>rfl
 |n+1=>by
  unfold cw
  rw[ss S n]
  rfl
theorem po (X:ap)(m:Nat):(cL X m).1=(cL X.plain m).1∧(cL X m).2.plain=(cL X.plain m).2∧(cL X m).2.src=X.src∧(cL X m).2.ses=X.ses:=by
 have e:X.plain.room=X.room:=rfl
 unfold cL
 rw[nY,fY,←oM,fY,e]
 split
 ·exact⟨rfl,rfl,rfl,rfl⟩
 ·exact⟨rfl,rfl,rfl,rfl⟩
theorem sV (X:ap)(S:aJ):(X.commit S).plain=X.plain.commit S.bare:=rfl
theorem gZ (X:ap)(n:Int):(bI X n).1=(bI X.plain n).1∧(bI X n).2.plain=(bI X.plain n).2∧(bI X n).2.src=X.src∧jG X (bI X n).2:=by
 have e:aM X.plain n=aM X n:=rfl
 unfold bI
 rw[e]
 cases hf:aM X n with
 |none=>exact⟨rfl,rfl,rfl,.same rfl⟩
 |some k=>
  simp only[]
  have e1:kH (X.plain.ses k)=kH (X.ses k):=rfl
  have e2:clash X.plain (X.plain.ses k)=clash X (X.ses k):=rfl
  have e3:cw (X.plain.ses k) 60=cw (X.ses k) 60:=ss _ _
  rw[e1,e2,e3]
  obtain⟨r1,r2,r3,r4⟩:=po X (cw (X.ses k) 60)
  rw[←r1,←r2]
  cases kH (X.ses k) with
  |false=>exact⟨rfl,eM _ _ _,rfl,nC hf rfl⟩
  |true=>
   cases clash X (X.ses k) with
   |true=>exact⟨rfl,eM _ _ _,rfl,nC hf rfl⟩
   |false=>
    cases (cL X (cw (X.ses k) 60)).1 with
    |false=>exact⟨rfl,rfl,r3,.same r4⟩
    |true=>
     refine⟨rfl,?_,r3,nC hf ?_⟩
     ·show ((((cL X (cw (X.ses k) 60)).2.setSes k .zero).commit (X.ses k))).plain=_
      rw[sV,eM]
      rfl
     ·show cI (cL X (cw (X.ses k) 60)).2.ses k .zero=_
      rw[r4]
structure eU (i:Nat)(X:ap):Prop where
 opened:0≤X.opened∧X.opened≤i
 latest:0≤X.latest∧X.latest≤i
 num:∀ k,k<8→0≤(X.ses k).num∧(X.ses k).num≤X.opened
 uniq:∀ j k,j<8→k<8→(X.ses j).num=(X.ses k).num→(X.ses j).num=0∨j=k
 snap:∀ k,k<8→0≤(X.ses k).snap∧(X.ses k).snap≤X.latest
 made:∀ k,k<8→0≤(X.ses k).made∧(X.ses k).made≤400*i
 wr:∀ k,k<8→∀ c v,(X.ses k).wr c=some (some v)→0≤v∧v≤9
 inc:∀ c,wz (X.hist c)
 his:∀ c,∀ p∈X.hist c,p.1≤X.latest∧∀ v,p.2=some v→0≤v∧v≤9
 kept:(keptN X 60:Int)≤X.room
 room:1≤X.room∧X.room≤999
theorem sE {X Y:ap}(h:(keptN X 60:Int)≤X.room)(e:Y.hist=X.hist)(r:Y.room=X.room):(keptN Y 60:Int)≤Y.room:=by rw[eJ e,r];exact h
theorem eU.mono {i j:Nat}{X:ap}(h:eU i X)(hij:i≤j):eU j X:=
 ⟨by have:=h.opened;omega,by have:=h.latest;omega,h.num,h.uniq,h.snap,fun k hk=>by have:=h.made k hk;omega,h.wr,h.inc,h.his,h.kept,h.room⟩
theorem eU.setSes {i:Nat}{X:ap}(h:eU i X){k:Nat}{S:aJ}(hk:k<8)(hnum:S.num=(X.ses k).num∨S.num=0)(hsn:0≤S.snap∧S.snap≤X.latest)(hmd:0≤S.made∧S.made≤400*i)(hwr:∀ c v,S.wr c=some (some v)→0≤v∧v≤9):eU i (X.setSes k S):=by
 have hs:∀ j,j≠k→(X.setSes k S).ses j=X.ses j:=fun j e=>bF _ _ _ e
 have hself:(X.setSes k S).ses k=S:=aW _ _ _
 refine⟨h.opened,h.latest,fun j hj=>?_,fun j l hj hl he=>?_,fun j hj=>?_,fun j hj=>?_,fun j hj=>?_,h.inc,h.his,sE h.kept rfl rfl,h.room⟩
 ·by_cases e:j=k
  ·subst e
   rw[hself]
   have h1:=h.num j hj
   have h2:=h.opened
   show 0≤S.num∧S.num≤X.opened
   rcases hnum with e|e <;> omega
  ·rw[hs j e]
   exact h.num j hj
 ·by_cases e:j=k
  ·by_cases e2:l=k
   ·exact .inr (e.trans e2.symm)
   ·rw[e,hself,hs l e2] at he
    rw[e,hself]
    rcases hnum with e3|e3
    ·rw[e3] at he ⊢
     rcases h.uniq k l hk hl he with h1|h1
     ·exact .inl h1
     ·exact absurd h1.symm e2
    ·exact .inl e3
  ·by_cases e2:l=k
   ·rw[e2,hself,hs j e] at he
    rw[hs j e]
    rcases hnum with e3|e3
    ·rw[e3] at he
     rcases h.uniq j k hj hk he with h1|h1
     ·exact .inl h1
     ·exact absurd h1 e
    ·exact .inl (by rw[he];exact e3)
   ·rw[hs j e,hs l e2] at he
    rw[hs j e]
    exact h.uniq j l hj hl he
 ·by_cases e:j=k
  ·subst e;rw[hself];exact hsn
  ·rw[hs j e];exact h.snap j hj
 ·by_cases e:j=k
  ·subst e;rw[hself];exact hmd
  ·rw[hs j e];exact h.made j hj
 ·by_cases e:j=k
  ·subst e;rw[hself];exact hwr
  ·rw[hs j e];exact h.wr j hj
theorem eU.zero {i:Nat}{X:ap}(h:eU i X){k:Nat}(hk:k<8):eU i (X.setSes k .zero):=
 h.setSes hk (.inr rfl) ⟨Int.le_refl 0,h.latest.1⟩ ⟨Int.le_refl 0,by show (0:Int)≤400*i;omega⟩ (fun c v e=>by cases e)
theorem eU.write {i:Nat}{X:ap}(h:eU i X){k:Nat}(hk:k<8)(c:Nat)(v:Option Int)(hv:∀ u,v=some u→0≤u∧u≤9):eU (i+1) (X.setSes k ((X.ses k).put c v)):=by
 refine (h.mono (Nat.le_succ i)).setSes hk (.inl rfl) (h.snap k hk) ?_ (fun d u e=>?_)
 ·have:=h.made k hk
  show 0≤(X.ses k).made+1∧(X.ses k).made+1≤400*((i+1:Nat):Int)
  omega
 ·have e':cI (X.ses k).wr c (some v) d=some (some u):=e
  unfold cI at e'
  split at e'
  ·simp only[Option.some.injEq] at e'
   exact hv u e'
  ·exact h.wr k hk d u e'
theorem eU.open {i:Nat}{X:ap}(h:eU i X):eU (i+1) (a8 X).2:=by
 unfold a8
 cases hf:ba X 0 with
 |none=>exact h.mono (Nat.le_succ i)
 |some k=>
  obtain⟨hk,h0⟩:=bx hf
  have ho:=h.opened
  have hl:=h.latest
  have hs:∀ j,j≠k→cI X.ses k (.new (X.opened+1) X.latest) j=X.ses j:=fun j e=>bF _ _ _ e
  have hself:cI X.ses k (.new (X.opened+1) X.latest) k=.new (X.opened+1) X.latest:=aW _ _ _
  refine⟨?_,?_,fun j hj=>?_,fun j l hj hl he=>?_,fun j hj=>?_,fun j hj=>?_,fun j hj=>?_,h.inc,h.his,sE h.kept rfl rfl,h.room⟩
  ·show 0≤X.opened+1∧X.opened+1≤((i+1:Nat):Int);omega
  ·show 0≤X.latest∧X.latest≤((i+1:Nat):Int);omega
  ·show 0≤(cI X.ses k _ j).num∧(cI X.ses k _ j).num≤X.opened+1
   by_cases e:j=k
   ·subst e
    rw[hself]
    show 0≤X.opened+1∧X.opened+1≤X.opened+1
    omega
   ·rw[hs j e]
    have:=h.num j hj
    omega
  ·have he':(cI X.ses k (.new (X.opened+1) X.latest) j).num=(cI X.ses k (.new (X.opened+1) X.latest) l).num:=he
   show (cI X.ses k _ j).num=0∨j=l
   by_cases e:j=k
   ·by_cases e2:l=k
    ·exact .inr (e.trans e2.symm)
    ·rw[e,hself,hs l e2] at he'
     have:=h.num l hl
     have h3:X.opened+1=(X.ses l).num:=he'
     omega
   ·by_cases e2:l=k
    ·rw[e2,hself,hs j e] at he'
     have:=h.num j hj
     have h3:(X.ses j).num=X.opened+1:=he'
     omega
    ·rw[hs j e,hs l e2] at he'
     rw[hs j e]
     exact h.uniq j l hj hl he'
  ·show 0≤(cI X.ses k _ j).snap∧(cI X.ses k _ j).snap≤X.latest
   by_cases e:j=k
   ·subst e;rw[hself];exact⟨hl.1,Int.le_refl _⟩
   ·rw[hs j e];exact h.snap j hj
  ·show 0≤(cI X.ses k _ j).made∧(cI X.ses k _ j).made≤400*((i+1:Nat):Int)
   by_cases e:j=k
   ·subst e;rw[hself];show (0:Int)≤0∧(0:Int)≤400*((i+1:Nat):Int);omega
   ·rw[hs j e];have:=h.made j hj;omega
  ·show ∀ c v,(cI X.ses k _ j).wr c=some (some v)→0≤v∧v≤9
   by_cases e:j=k
   ·subst e;rw[hself];intro c v hv;cases hv
   ·rw[hs j e];exact h.wr j hj
theorem eU.put {i:Nat}{X:ap}(h:eU i X)(n:Int)(s:ByteArray):eU (i+1) (cq X n s).2:=by
 unfold cq
 cases hf:aM X n with
 |none=>exact h.mono (Nat.le_succ i)
 |some k=>
  cases hb:eR s with
  |false=>exact h.mono (Nat.le_succ i)
  |true=>
   refine h.write (eb hf).1 _ _ (fun u e=>?_)
   unfold eR at hb
   simp only[Bool.and_eq_true] at hb
   have:=hb.2
   simp[bN] at this
   simp only[Option.some.injEq] at e
   omega
theorem eU.clear {i:Nat}{X:ap}(h:eU i X)(n:Int)(s:ByteArray):eU (i+1) (aX X n s).2:=by
 unfold aX
 cases hf:aM X n with
 |none=>exact h.mono (Nat.le_succ i)
 |some k=>
  cases eE s with
  |false=>exact h.mono (Nat.le_succ i)
  |true=>exact h.write (eb hf).1 _ _ (fun u e=>by cases e)
theorem eU.abort {i:Nat}{X:ap}(h:eU i X)(n:Int):eU (i+1) (aY X n).2:=by
 unfold aY
 cases hf:aM X n with
 |none=>exact h.mono (Nat.le_succ i)
 |some k=>exact (h.mono (Nat.le_succ i)).zero (eb hf).1
theorem eU.swept {i:Nat}{X:ap}(h:eU i X)(t:Int):eU i (X.swept t):=
 ⟨h.opened,h.latest,h.num,h.uniq,h.snap,h.made,h.wr,fun c=>(h.inc c).swept t,fun c p hp=>h.his c p (List.filter_sublist.subset hp),by have:=gV X t 60;have:=h.kept;show (keptN (X.swept t) 60:Int)≤X.room;omega,h.room⟩
theorem eU.sweep {i:Nat}{X:ap}(h:eU i X):eU (i+1) (cn X).2:=(h.mono (Nat.le_succ i)).swept _
theorem eU.roomed {i:Nat}{X:ap}(h:eU i X)(m:Nat):eU i (cL X m).2:=by
 unfold cL
 split
 ·exact h
 ·exact h.swept _
theorem sr (X:ap)(P:aJ):∀ n,keptN (X.commit P) n=keptN X n+cw P n
 |0=>rfl
 |n+1=>by
  have h1:keptN (X.commit P) (n+1)=keptN (X.commit P) n+((X.commit P).hist n).length:=rfl
  have h2:keptN X (n+1)=keptN X n+(X.hist n).length:=rfl
  have h3:cw P (n+1)=cw P n+(if (P.wr n).isSome then 1 else 0):=rfl
  have h4:((X.commit P).hist n).length=(X.hist n).length+(if (P.wr n).isSome then 1 else 0):=by
   show (match P.wr n with|some v=>X.hist n++[(X.latest+1,v)]|none=>X.hist n).length=_
   cases P.wr n <;> simp
  rw[h1,h2,h3,h4,sr X P n]
  omega
theorem BO {X:ap}{m:Nat}(h:(cL X m).1=true):((keptN (cL X m).2 60+m:Nat):Int)≤X.room:=by
 unfold cL at h ⊢
 split
 ·rename_i hr
  exact hr
 ·rename_i hr
  rw[if_neg hr] at h
  exact of_decide_eq_true h
theorem eU.committed {i:Nat}{X:ap}(h:eU i X){S:aJ}(hw:∀ c v,S.wr c=some (some v)→0≤v∧v≤9)(hr:((keptN X 60+cw S 60:Nat):Int)≤X.room):eU (i+1) (X.commit S):=by
 have hl:=h.latest
 have hh:∀ c,(X.commit S).hist c=X.hist c∨∃ v,S.wr c=some v∧(X.commit S).hist c=X.hist c++[(X.latest+1,v)]:=fun c=>by
  show (match S.wr c with|some v=>X.hist c++[(X.latest+1,v)]|none=>X.hist c)=_∨_
  cases hc:S.wr c with
  |none=>exact .inl rfl
  |some v=>
   refine .inr ⟨v,rfl,?_⟩
   show (match S.wr c with|some v=>X.hist c++[(X.latest+1,v)]|none=>X.hist c)=_
   rw[hc]
 refine⟨by have:=h.opened;show 0≤X.opened∧X.opened≤((i+1:Nat):Int);omega,by show 0≤X.latest+1∧X.latest+1≤((i+1:Nat):Int);omega,h.num,h.uniq,fun k hk=>by
  have:=h.snap k hk
  show 0≤(X.ses k).snap∧(X.ses k).snap≤X.latest+1
  omega,fun k hk=>by
  have:=h.made k hk
  show 0≤(X.ses k).made∧(X.ses k).made≤400*((i+1:Nat):Int)
  omega,h.wr,fun c=>?_,fun c p hp=>?_,by rw[sr];exact hr,h.room⟩
 ·rcases hh c with e|⟨v,_,e⟩
  ·rw[e];exact h.inc c
  ·rw[e]
   exact (h.inc c).snoc (fun q hq=>by have:=(h.his c q hq).1;show q.1<X.latest+1;omega) (by show 1≤X.latest+1;omega)
 ·show p.1≤X.latest+1∧_
  rcases hh c with e|⟨v,hv,e⟩
  ·rw[e] at hp
   have:=h.his c p hp
   exact⟨by omega,this.2⟩
  ·rw[e] at hp
   rcases List.mem_append.mp hp with hp|hp
   ·have:=h.his c p hp
    exact⟨by omega,this.2⟩
   ·rw[List.mem_singleton] at hp
    subst hp
    exact⟨Int.le_refl _,fun u hu=>hw c u (by rw[hv];exact congrArg some hu)⟩
theorem eU.commit {i:Nat}{X:ap}(h:eU i X)(n:Int):eU (i+1) (bI X n).2:=by
 unfold bI
 cases hf:aM X n with
 |none=>exact h.mono (Nat.le_succ i)
 |some k=>
  have hk:=(eb hf).1
  simp only[]
  cases kH (X.ses k) with
  |false=>exact (h.mono (Nat.le_succ i)).zero hk
  |true=>
   cases clash X (X.ses k) with
   |true=>exact (h.mono (Nat.le_succ i)).zero hk
   |false=>
    cases hrm:(cL X (cw (X.ses k) 60)).1 with
    |false=>exact (h.mono (Nat.le_succ i)).roomed _
    |true=>
     have hfit:=BO hrm
     obtain⟨_,_,r3,_⟩:=po X (cw (X.ses k) 60)
     refine ((h.roomed _).zero hk).committed (h.wr k hk) ?_
     rw[eJ (X:=(cL X (cw (X.ses k) 60)).2) (Y:=(cL X (cw (X.ses k) 60)).2.setSes k .zero) rfl]
     show _≤(cL X (cw (X.ses k) 60)).2.src.1.2
     rw[r3]
     exact hfit
theorem eU.plain {i:Nat}{X:ap}:eU i X↔eU i X.plain:=
 ⟨fun h=>⟨h.opened,h.latest,h.num,h.uniq,h.snap,h.made,h.wr,h.inc,h.his,by rw[fY];exact h.kept,h.room⟩,fun h=>⟨h.opened,h.latest,h.num,h.uniq,h.snap,h.made,h.wr,h.inc,h.his,by have:=h.kept;rw[fY] at this;exact this,h.room⟩⟩
theorem eU.keptN {i:Nat}{X:ap}(h:eU i X):keptN X 60≤999:=by
 have h1:=h.kept
 have h2:=h.room
 omega
theorem eU.len {i:Nat}{X:ap}(h:eU i X){c:Nat}(hc:c<60):(X.hist c).length≤999:=by
 have h1:=h.keptN
 have h2:=kj X (m:=c+1) (n:=60) (by omega)
 have h3:Go.Proofs.YthlhbjnkohinmaaGreat.keptN X (c+1)=Go.Proofs.YthlhbjnkohinmaaGreat.keptN X c+(X.hist c).length:=rfl
 omega
theorem eU.mores {i:Nat}{X:ap}(h:eU i X)(hi:i≤100000000000000){n:Int}{k:Nat}(hf:aM X n=some k):(X.ses k).more:=by
 have hk:=(eb hf).1
 have h1:=h.snap k hk
 have h2:=h.made k hk
 have h3:=h.latest
 unfold aJ.more
 omega
theorem nW {h:gw}{t v:Int}(e:(aN h t).2=some v):aN h t∈h:=by
 unfold aN at e ⊢
 cases hf:h.reverse.find? (fun p=>decide (p.1≤t)) with
 |none=>rw[hf] at e;cases e
 |some q=>exact List.mem_reverse.mp (List.mem_of_find?_eq_some hf)
theorem eU.seen {i:Nat}{X:ap}(h:eU i X){k:Nat}(hk:k<8):ER (jl X k):=by
 intro c v _ hv
 unfold jl at hv
 cases hw:(X.ses k).wr c with
 |none=>
  rw[hw] at hv
  simp only at hv
  rw[←gn] at hv
  exact (h.his c _ (nW hv)).2 v hv
 |some u=>
  rw[hw] at hv
  simp only at hv
  exact h.wr k hk c v (by rw[hw,hv])
end Go.Proofs.YthlhbjnkohinmaaGreat
