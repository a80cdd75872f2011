import Derived.Test.YthlhbjnkohinmaaGreatP24
import Derived.Test.YthlhbjnkohinmaaGreatP18
import Derived.Test.YthlhbjnkohinmaaGreatP20
namespace Go.Proofs.YthlhbjnkohinmaaGreat
set_option maxRecDepth 100000
set_option maxHeartbeats 8000000
open Go.RowKit
theorem yJ:∀ u v:List UInt8,Op.bytesLess u v=true→Op.bytesLess v u=false
 |[],[],h=>by cases h
 |[],_::_,_=>rfl
 |_::_,[],h=>by cases h
 |a::u,b::v,h=>by
  simp only[Op.bytesLess,Bool.or_eq_true,decide_eq_true_eq,Bool.and_eq_true,beq_iff_eq] at h
  simp only[Op.bytesLess,Bool.or_eq_false_iff,decide_eq_false_iff_not,Bool.and_eq_false_iff,beq_eq_false_iff_ne,ne_eq]
  rcases h with h|⟨h1,h2⟩
  ·have h':=UInt8.lt_iff_toNat_lt.mp h
   refine⟨fun h3=>?_,.inl (fun e=>?_)⟩
   ·have:=UInt8.lt_iff_toNat_lt.mp h3
    omega
   ·rw[e] at h'
    omega
  ·subst h1
   refine⟨fun h3=>?_,.inr (yJ u v h2)⟩
   have:=UInt8.lt_iff_toNat_lt.mp h3
   omega
theorem DD:∀ (p u v:List UInt8),Op.bytesLess (p++u) (p++v)=Op.bytesLess u v
 |[],_,_=>rfl
 |a::p,u,v=>by simp[Op.bytesLess,DD p u v]
theorem DL:∀ (u v x y:List UInt8),u.length=v.length→Op.bytesLess u v=true→Op.bytesLess (u++x) (v++y)=true
 |[],[],_,_,_,h=>by cases h
 |[],_::_,_,_,hl,_=>by simp at hl
 |_::_,[],_,_,hl,_=>by simp at hl
 |a::u,b::v,x,y,hl,h=>by
  simp only[Op.bytesLess,Bool.or_eq_true,decide_eq_true_eq,Bool.and_eq_true,beq_iff_eq] at h
  simp only[List.cons_append,Op.bytesLess,Bool.or_eq_true,decide_eq_true_eq,Bool.and_eq_true,beq_iff_eq]
  rcases h with h|⟨h1,h2⟩
  ·exact .inl h
  ·exact .inr ⟨h1,DL u v x y (by simpa using hl) h2⟩
def uP (l:List au):List UInt8:=l.flatMap fun q=>(cz q.1 q.2.1).data.toList
theorem AR (a b:List au):E8 (bA a) (bA b)=Op.bytesLess (uP a) (uP b):=by
 unfold E8
 rw[ByteArray.toList_eq,ByteArray.toList_eq,jf,jf]
 rfl
theorem ll (l:List au):(uP l).length=3*l.length:=by
 induction l with
 |nil=>rfl
 |cons q l ih=>
  unfold uP at ih ⊢
  rw[List.flatMap_cons,List.length_append,ih,List.length_cons]
  have:(cz q.1 q.2.1).data.toList.length=3:=rfl
  omega
theorem mQ (l:List au) (q:au):uP (l++[q])=uP l++(cz q.1 q.2.1).data.toList:=by simp[uP]
theorem CQ {c d:Nat} {v u:Int} (h:c<d) (hd:d<60):Op.bytesLess (cz c v).data.toList (cz d u).data.toList=true:=by
 have e:∀ (k:Nat) (x:Int),(cz k x).data.toList=[UInt8.ofNat (97+(k:Int) / 10).toNat,UInt8.ofNat (48+(k:Int) % 10).toNat,UInt8.ofNat (48+x).toNat]:=fun k x=>rfl
 rw[e,e]
 have t:∀ n:Nat,n<256→(UInt8.ofNat n).toNat=n:=fun n hn=>by rw[UInt8.toNat_ofNat'];omega
 by_cases h1:c / 10<d / 10
 ·have:UInt8.ofNat (97+(c:Int) / 10).toNat<UInt8.ofNat (97+(d:Int) / 10).toNat:=by
   rw[UInt8.lt_iff_toNat_lt,t _ (by omega),t _ (by omega)]
   omega
  simp[Op.bytesLess,this]
 ·have h2:c / 10=d / 10:=by omega
  have e1:(97+(c:Int) / 10).toNat=(97+(d:Int) / 10).toNat:=by omega
  have:UInt8.ofNat (48+(c:Int) % 10).toNat<UInt8.ofNat (48+(d:Int) % 10).toNat:=by
   rw[UInt8.lt_iff_toNat_lt,t _ (by omega),t _ (by omega)]
   omega
  simp[Op.bytesLess,this,e1]
def xx (a b:In):Prop:=Op.bytesLess (uP a.facts) (uP b.facts)=true
def pN (F:List au):Prop:=F.Pairwise fun a b=>a.1<b.1
theorem Cs {F:List au} (hF:pN F) (hk:rp F) (c t1 t2:Int) (i:In):(iB F c t1 t2 i).Pairwise xx:=by
 unfold iB
 refine List.Pairwise.filterMap _ (R:=fun a b:au=>a.1<b.1∧b.1<60) ?_ ?_
 ·intro a a' ⟨h1,h2⟩ b hb b' hb'
  cases ha:fU i.env c t1 t2 a with
  |none=>rw[ha] at hb;cases hb
  |some e=>
   cases ha':fU i.env c t1 t2 a' with
   |none=>rw[ha'] at hb';cases hb'
   |some e'=>
    rw[ha] at hb
    rw[ha'] at hb'
    simp only[Option.map_some,Option.some.injEq] at hb hb'
    rw[←hb,←hb']
    unfold xx
    simp only[]
    rw[mQ,mQ,DD]
    exact CQ h1 h2
 ·refine List.Pairwise.imp_of_mem ?_ hF
  intro a b _ hb h
  exact⟨h,(hk b hb).1⟩
theorem rV {F:List au} (hF:pN F) (hk:rp F) (c t1 t2:Int) (m:Nat):∀ (l:List In),l.Pairwise xx→(∀ i∈l,i.facts.length=m)→(l.flatMap (iB F c t1 t2)).Pairwise xx
 |[],_,_=>List.Pairwise.nil
 |i::l,h,hm=>by
  rw[List.flatMap_cons,List.pairwise_append]
  obtain⟨h1,h2⟩:=List.pairwise_cons.mp h
  refine⟨Cs hF hk c t1 t2 i,rV hF hk c t1 t2 m l h2 (fun j hj=>hm j (by simp[hj])),?_⟩
  intro a ha b hb
  obtain⟨j,hj,hbj⟩:=List.mem_flatMap.mp hb
  have sh:∀ (x:In) (y:In),y∈iB F c t1 t2 x→∃ q,y.facts=x.facts++[q]:=by
   intro x y hy
   unfold iB at hy
   obtain⟨q,_,hq⟩:=List.mem_filterMap.mp hy
   cases hg:fU x.env c t1 t2 q with
   |none=>rw[hg] at hq;cases hq
   |some e=>
    rw[hg] at hq
    simp only[Option.map_some,Option.some.injEq] at hq
    exact⟨q,by rw[←hq]⟩
  obtain⟨q,hq⟩:=sh i a ha
  obtain⟨q',hq'⟩:=sh j b hbj
  unfold xx
  rw[hq,hq',mQ,mQ]
  refine DL _ _ _ _ ?_ (h1 j hj)
  rw[ll,ll,hm i (by simp),hm j (by simp[hj])]
theorem sa {s:ByteArray} {F:List au} (hF:pN F) (hk:rp F) (hFl:F.length≤60) {r:Nat} {L:List Nat} (hL:∀ p∈L,b7 s p=true):∀ k,k≤L.length→(eY s F r L k).Pairwise xx
 |0,_=>by simp[eY]
 |k+1,hkl=>by
  have ih:=sa hF hk hFl (r:=r) hL k (by omega)
  have hlt:k<L.length:=by omega
  rw[iJ s F r L k hlt]
  unfold kI
  split
  ·exact ih.filter _
  ·split
   ·exact rV hF hk _ _ _ _ _ ih (fun i hi=>((jP hFl r hL k (by omega)).2 i hi).1)
   ·exact ih.filter _
def Gb (a b:In):Prop:=a.rule<b.rule∨(a.rule=b.rule∧xx a b)
theorem pG {s:ByteArray} {F:List au} (hF:pN F) (hk:rp F) (hFl:F.length≤60) {R:List ax} (hL:∀ r∈R,∀ p∈r.2.1,b7 s p=true):∀ n,n≤R.length→(bz 0 s F R n).Pairwise Gb∧∀ i∈bz 0 s F R n,i.rule<n
 |0,_=>by simp[bz]
 |n+1,hn=>by
  obtain⟨h1,h2⟩:=pG hF hk hFl hL n (by omega)
  have hlt:n<R.length:=by omega
  have e:R.getD n (0,[],[])=R[n]:=by simp[List.getD,List.getElem?_eq_getElem hlt]
  have h3:=sa hF hk hFl (r:=n) (hL _ (List.getElem_mem hlt)) R[n].2.1.length (Nat.le_refl _)
  have h4:=(jP hFl n (hL _ (List.getElem_mem hlt)) R[n].2.1.length (Nat.le_refl _)).2
  rw[jE] at h3 h4
  rw[fW,e]
  refine⟨?_,fun i hi=>?_⟩
  ·rw[List.pairwise_append]
   refine⟨h1,?_,fun a ha b hb=>.inl (by rw[(h4 b hb).2];exact h2 a ha)⟩
   refine List.Pairwise.imp_of_mem ?_ h3
   intro a b ha hb h
   exact .inr ⟨by rw[(h4 a ha).2,(h4 b hb).2],h⟩
  ·rcases List.mem_append.mp hi with hi|hi
   ·have:=h2 i hi;omega
   ·have:=(h4 i hi).2;omega
def Dk (sn t:Int):ByteArray:=if sn<t then ⟨#[32,119]⟩++gJ (t - sn - 1).toNat else ⟨#[32,118]⟩++gJ t.toNat
def mB (sn:Int) (i:In):ByteArray:=i.facts.foldl (fun t q=>t++Dk sn q.2.2) (fN i)
def Eg (l:List UInt8):Nat:=l.foldl (fun a b=>a*10+(b.toNat - 48)) 0
theorem zR (l:List UInt8) (b:UInt8):Eg (l++[b])=Eg l*10+(b.toNat - 48):=by simp[Eg]
theorem qN (n:Nat):(strOfNums [48+(n:Int) % 10]).data.toList=[UInt8.ofNat (48+n % 10)]:=by
 show [UInt8.ofNat (48+(n:Int) % 10).toNat]=_
 congr 2
theorem mJ:∀ n:Nat,Eg (gJ n).data.toList=n∧∀ b∈(gJ n).data.toList,b≠32:=by
 intro n
 induction n using Nat.strongRecOn with
 |ind n ih=>
  have hd:(UInt8.ofNat (48+n % 10)).toNat=48+n % 10:=by rw[UInt8.toNat_ofNat'];omega
  have hne:UInt8.ofNat (48+n % 10)≠32:=fun e=>by
   have:=congrArg UInt8.toNat e
   rw[hd] at this
   simp at this
   omega
  rw[gJ]
  by_cases h:n<10
  ·rw[dif_pos h,qN]
   refine⟨?_,fun b hb=>?_⟩
   ·show 0*10+((UInt8.ofNat (48+n % 10)).toNat - 48)=n
    rw[hd]
    omega
   ·rw[List.mem_singleton] at hb
    rw[hb]
    exact hne
  ·rw[dif_neg h]
   obtain⟨i1,i2⟩:=ih (n / 10) (by omega)
   have e:(gJ (n / 10)++strOfNums [48+(n:Int) % 10]).data.toList=(gJ (n / 10)).data.toList++[UInt8.ofNat (48+n % 10)]:=by
    rw[ByteArray.data_append,Array.toList_append,qN]
   rw[e]
   refine⟨?_,fun b hb=>?_⟩
   ·rw[zR,i1,hd]
    omega
   ·rcases List.mem_append.mp hb with hb|hb
    ·exact i2 b hb
    ·rw[List.mem_singleton] at hb
     rw[hb]
     exact hne
theorem vx {a b:Nat} (h:(gJ a).data.toList=(gJ b).data.toList):a=b:=by
 rw[←(mJ a).1,←(mJ b).1,h]
theorem wI:∀ {A A' B B':List UInt8},(∀ b∈A,b≠32)→(∀ b∈A',b≠32)→(B=[]∨∃ l,B=32::l)→(B'=[]∨∃ l,B'=32::l)→A++B=A'++B'→A=A'∧B=B'
 |[],[],B,B',_,_,_,_,h=>⟨rfl,h⟩
 |[],a::A',B,B',_,h2,h3,_,h=>by
  exfalso
  rw[List.nil_append] at h
  rcases h3 with h3|⟨l,h3⟩
  ·rw[h3] at h;cases h
  ·rw[h3] at h
   injection h with e _
   exact h2 a (by simp) e.symm
 |a::A,[],B,B',h1,_,_,h4,h=>by
  exfalso
  rw[List.nil_append] at h
  rcases h4 with h4|⟨l,h4⟩
  ·rw[h4] at h;cases h
  ·rw[h4] at h
   injection h with e _
   exact h1 a (by simp) e
 |a::A,a'::A',B,B',h1,h2,h3,h4,h=>by
  injection h with e1 e2
  obtain⟨i1,i2⟩:=wI (fun b hb=>h1 b (by simp[hb])) (fun b hb=>h2 b (by simp[hb])) h3 h4 e2
  exact⟨by rw[e1,i1],i2⟩
def qW (sn t:Int):List UInt8:=(Dk sn t).data.toList
theorem lB (sn t:Int):qW sn t=32::(if sn<t then (119::(gJ (t - sn - 1).toNat).data.toList) else (118::(gJ t.toNat).data.toList)):=by
 unfold qW Dk
 split <;> (rw[ByteArray.data_append,Array.toList_append];rfl)
theorem rB (sn:Int) (i:In):(mB sn i).data.toList=(fN i).data.toList++i.facts.flatMap fun q=>qW sn q.2.2:=by
 unfold mB
 have:∀ (l:List au) (z:ByteArray),(l.foldl (fun t q=>t++Dk sn q.2.2) z).data.toList=z.data.toList++l.flatMap fun q=>qW sn q.2.2:=by
  intro l
  induction l with
  |nil=>intro z;simp
  |cons q l ih=>
   intro z
   rw[List.foldl_cons,ih,ByteArray.data_append,Array.toList_append,List.flatMap_cons,List.append_assoc]
   rfl
 exact this _ _
theorem qe (i:In):(fN i).data.toList=UInt8.ofNat (48+i.rule)::uP i.facts:=by
 unfold fN
 rw[ByteArray.data_append,Array.toList_append,jf]
 have:(strOfNums [48+(i.rule:Int)]).data.toList=[UInt8.ofNat (48+i.rule)]:=by
  show [UInt8.ofNat (48+(i.rule:Int)).toNat]=_
  congr 2
 rw[this]
 rfl
def DK (l:List au):Prop:=∀ q∈l,q.1<60∧0≤q.2.1∧q.2.1≤9∧0≤q.2.2
theorem rD {n:Nat} (h:n<256):(UInt8.ofNat n).toNat=n:=by rw[UInt8.toNat_ofNat'];omega
theorem AQ (c:Nat) (v:Int):(cz c v).data.toList=[UInt8.ofNat (97+(c:Int) / 10).toNat,UInt8.ofNat (48+(c:Int) % 10).toNat,UInt8.ofNat (48+v).toNat]:=rfl
theorem FR {l:List au} (h:DK l):∀ b∈uP l,b≠32:=by
 intro b hb e
 unfold uP at hb
 obtain⟨q,hq,hm⟩:=List.mem_flatMap.mp hb
 obtain⟨h1,h2,h3,_⟩:=h q hq
 rw[AQ] at hm
 simp only[List.mem_cons,List.not_mem_nil,or_false] at hm
 have hb':=congrArg UInt8.toNat e
 simp only[UInt8.reduceToNat] at hb'
 rcases hm with hm|hm|hm <;> (rw[hm,rD (by omega)] at hb';omega)
theorem yq:∀ {l m:List au},DK l→DK m→uP l=uP m→l.map (fun q=>(q.1,q.2.1))=m.map (fun q=>(q.1,q.2.1))
 |[],[],_,_,_=>rfl
 |[],q::m,_,_,h=>by
  have:=congrArg List.length h
  rw[ll,ll] at this
  simp at this
 |q::l,[],_,_,h=>by
  have:=congrArg List.length h
  rw[ll,ll] at this
  simp at this
 |q::l,p::m,hl,hm,h=>by
  have e:∀ (x:au) (k:List au),uP (x::k)=UInt8.ofNat (97+(x.1:Int) / 10).toNat::UInt8.ofNat (48+(x.1:Int) % 10).toNat::UInt8.ofNat (48+x.2.1).toNat::uP k:=fun _ _=>rfl
  rw[e,e] at h
  injection h with a1 h
  injection h with a2 h
  injection h with a3 h
  have ih:=yq (fun x hx=>hl x (by simp[hx])) (fun x hx=>hm x (by simp[hx])) h
  obtain⟨b1,b2,b3,_⟩:=hl q (by simp)
  obtain⟨d1,d2,d3,_⟩:=hm p (by simp)
  have c1:=congrArg UInt8.toNat a1
  have c2:=congrArg UInt8.toNat a2
  have c3:=congrArg UInt8.toNat a3
  rw[rD (by omega),rD (by omega)] at c1 c2 c3
  rw[List.map_cons,List.map_cons,ih]
  congr 2
  ·omega
  ·omega
theorem yO:∀ {sn:Int} {l m:List au},DK l→DK m→l.length=m.length→(l.flatMap fun q=>qW sn q.2.2)=(m.flatMap fun q=>qW sn q.2.2)→l.map (·.2.2)=m.map (·.2.2)
 |_,[],[],_,_,_,_=>rfl
 |_,[],q::m,_,_,h,_=>by cases h
 |_,q::l,[],_,_,h,_=>by cases h
 |sn,q::l,p::m,hl,hm,hn,h=>by
  rw[List.flatMap_cons,List.flatMap_cons,lB,lB,List.cons_append,List.cons_append] at h
  injection h with _ h
  have hb:∀ (k:List au),(k.flatMap fun q=>qW sn q.2.2)=[]∨∃ r,(k.flatMap fun q=>qW sn q.2.2)=32::r:=fun k=>by
   cases k with
   |nil=>exact .inl rfl
   |cons x k=>
    rw[List.flatMap_cons,lB,List.cons_append]
    exact .inr ⟨_,rfl⟩
  have hno:∀ t:Int,∀ b∈(if sn<t then (119::(gJ (t - sn - 1).toNat).data.toList) else (118::(gJ t.toNat).data.toList)),b≠32:=fun t b hb=>by
   split at hb
   ·rcases List.mem_cons.mp hb with e|hb
    ·rw[e];decide
    ·exact (mJ _).2 b hb
   ·rcases List.mem_cons.mp hb with e|hb
    ·rw[e];decide
    ·exact (mJ _).2 b hb
  obtain⟨e1,e2⟩:=wI (hno _) (hno _) (hb l) (hb m) h
  have ih:=yO (fun x hx=>hl x (by simp[hx])) (fun x hx=>hm x (by simp[hx])) (by simpa using hn) e2
  have h1:=(hl q (by simp)).2.2.2
  have h2:=(hm p (by simp)).2.2.2
  have:q.2.2=p.2.2:=by
   split at e1
   ·split at e1
    ·injection e1 with _ e1
     have:=vx e1
     omega
    ·injection e1 with e1 _
     exact absurd e1 (by decide)
   ·split at e1
    ·injection e1 with e1 _
     exact absurd e1 (by decide)
    ·injection e1 with _ e1
     have:=vx e1
     omega
  rw[List.map_cons,List.map_cons,ih,this]
theorem FZ:∀ {l m:List au},l.map (fun q=>(q.1,q.2.1))=m.map (fun q=>(q.1,q.2.1))→l.map (·.2.2)=m.map (·.2.2)→l=m
 |[],[],_,_=>rfl
 |[],q::m,h,_=>by cases h
 |q::l,[],h,_=>by cases h
 |q::l,p::m,h1,h2=>by
  rw[List.map_cons,List.map_cons] at h1 h2
  injection h1 with a1 b1
  injection h2 with a2 b2
  rw[FZ b1 b2]
  congr 1
  obtain⟨x,y,z⟩:=q
  obtain⟨x',y',z'⟩:=p
  simp only[Prod.mk.injEq] at a1 a2 ⊢
  exact⟨a1.1,a1.2,a2⟩
theorem BX {sn:Int} {i j:In} (hi:DK i.facts) (hj:DK j.facts) (ri:i.rule≤9) (rj:j.rule≤9) (h:mB sn i=mB sn j):i.rule=j.rule∧i.facts=j.facts:=by
 have h1:(mB sn i).data.toList=(mB sn j).data.toList:=by rw[h]
 rw[rB,rB,qe,qe] at h1
 have hb:∀ (k:List au),(k.flatMap fun q=>qW sn q.2.2)=[]∨∃ r,(k.flatMap fun q=>qW sn q.2.2)=32::r:=fun k=>by
  cases k with
  |nil=>exact .inl rfl
  |cons x k=>
   rw[List.flatMap_cons,lB,List.cons_append]
   exact .inr ⟨_,rfl⟩
 have hno:∀ {x:In},DK x.facts→x.rule≤9→∀ b∈UInt8.ofNat (48+x.rule)::uP x.facts,b≠32:=fun {x} hx hr b hb=>by
  rcases List.mem_cons.mp hb with e|hb
  ·rw[e]
   intro e2
   have:=congrArg UInt8.toNat e2
   rw[rD (by omega)] at this
   simp only[UInt8.reduceToNat] at this
   omega
  ·exact FR hx b hb
 obtain⟨e1,e2⟩:=wI (hno hi ri) (hno hj rj) (hb _) (hb _) h1
 injection e1 with r1 r2
 have hr:=congrArg UInt8.toNat r1
 rw[rD (by omega),rD (by omega)] at hr
 have hm:=yq hi hj r2
 have hl:i.facts.length=j.facts.length:=by
  have:=congrArg List.length hm
  simpa using this
 exact⟨by omega,FZ hm (yO hi hj hl e2)⟩
theorem DT {w:World} {e:TypeId} {base size:Nat} {cs:List Value} (hb:base≤w.heap.size) (hs:cs.length=size):(w.alloc (.cells cs.toArray e)).ownsRow base e size (.slice (some ⟨w.heap.size,0,none⟩) 1 1) 1 cs:=
 ⟨by simp[hs],.inr ⟨w.heap.size,1,cs.toArray,rfl,hb,heap_alloc_new w _,Nat.le_refl 1,by unfold maxLen;omega,by simp[hs],by simp[←hs]⟩⟩
theorem lR (s:ByteArray) (F:List au) (r:Nat) (L:List Nat) (wt:Int) (a1 a2 fa:Option Addr) (c1 m2 c2 fc B B2:Nat) (w:World) (hLo:∀ p∈L,b7 s p=true) (hp3:bL s L≤3) (hLl:L.length≤400)
  (hrow:w.ownsRow B 206 7 (.slice a1 L.length c1) L.length (dp s L)) (hFl:F.length≤60) (hfr:w.ownsRow B2 114 4 (.slice fa F.length fc) F.length (bF F)) :
  Calls Tryz.prog 88 #[.int .i64 r,.agg #[.int .i64 wt,.slice a1 L.length c1,.slice a2 m2 c2],.slice fa F.length fc] w fun e w'=>∃ v,e=.returned v∧w'.ownsRow w.heap.size 176 24 v (dz 0 s F r L).length (dA wt (dz 0 s F r L))∧w.grownBy w' none:=by
 have HROW:=af hrow
 have HFR:=af hfr
 rw[←jE]
 obtain⟨D,hD⟩:∃ D,D=aF wt (In.start r):=⟨_,rfl⟩
 have hDl:D.length=24:=by rw[hD];rfl
 have HDA:Hid (Value.agg #[.int .i64 r,.int .i64 wt,.int .i64 0,.int .i64 0,.int .i64 0,.int .i64 0,.int .i64 0,.int .i64 0,.int .i64 0,.int .i64 0,.int .i64 0,.int .i64 0,.int .i64 0,.int .i64 0,.int .i64 0,.int .i64 0,.bool false,.bool false,.bool false,.bool false,.int .i64 0,.int .i64 0,.int .i64 0,.int .i64 0]=.agg D.toArray):=af (by rw[hD];simp[aF,In.start,b9,wi,dB,dI])
 have HIZ:Hid ((Tryz.prog.info? 176).map (fun i=>(i.zero,i.size))=some (some (.agg #[.int .i64 0,.int .i64 0,.int .i64 0,.int .i64 0,.int .i64 0,.int .i64 0,.int .i64 0,.int .i64 0,.int .i64 0,.int .i64 0,.int .i64 0,.int .i64 0,.int .i64 0,.int .i64 0,.int .i64 0,.int .i64 0,.bool false,.bool false,.bool false,.bool false,.int .i64 0,.int .i64 0,.int .i64 0,.int .i64 0]),D.length)):=af (by rw[hDl];kernel_rfl)
 have HST:Hid (((w.alloc (.cells #[.int .i64 wt,.slice a1 L.length c1,.slice a2 m2 c2] 169)).alloc (.cells D.toArray 176)).ownsRow w.heap.size 176 24 (.slice (some ⟨w.heap.size+1,0,none⟩) 1 1) (eY s F r L 0).length (dA wt (eY s F r L 0))):=af (by
  have:=DT (w:=w.alloc (.cells #[.int .i64 wt,.slice a1 L.length c1,.slice a2 m2 c2] 169)) (e:=176) (base:=w.heap.size) (cs:=D) (by simp) hDl
  rw[show (w.alloc (.cells #[.int .i64 wt,.slice a1 L.length c1,.slice a2 m2 c2] 169)).heap.size=w.heap.size+1 by simp] at this
  rw[hD] at this ⊢
  simpa [eY,dA] using this)
 have HSG:Hid (w.grownBy ((w.alloc (.cells #[.int .i64 wt,.slice a1 L.length c1,.slice a2 m2 c2] 169)).alloc (.cells D.toArray 176)) none):=af (ab (ab (ag _ _) _) _)
 clear hrow hfr hD
 go_enter Tryz.func88,Tryz.ntmps88
 go_wp2_with (first
  |(refine bp rfl 125 176 (.tmp 13) rfl _ D HDA.out Tryz.underlying125 HIZ.out (by omega) (by omega) ?_))
 go_loopw [7,18] (fun t i wr=>∃ k:Nat,k≤L.length∧i=.int .i64 k∧wr.ownsRow w.heap.size 176 24 t (eY s F r L k).length (dA wt (eY s F r L k))∧w.grownBy wr none) (fun _ i _=>L.length - (intOf i).toNat)
 case atStart=>exact⟨0,by omega,rfl,HST.out,HSG.out⟩
 case round=>
  obtain⟨k,hk,rfl,hown,hg⟩:=hrel
  have HG:=af hg
  have HOW:=af hown
  by_cases hlt:k<L.length
  ·have how:=aq HROW.out hg (fun g hg=>by cases hg)
   obtain⟨gf,rfl,_,_,hgl,hcell⟩:=aC how (by omega)
   obtain⟨C,hC⟩:∃ C,C=z8 s L[k]:=⟨_,rfl⟩
   have HRG:Hid (wr.rangeAt gf (k*7) C):=af (by rw[hC];exact eU (D6 s) hcell hlt)
   have hCl:C.length=7:=by rw[hC];rfl
   have HIC:Hid ((Tryz.prog.info? 206).map (·.size)=some C.length):=af (by rw[hCl];exact iL)
   have HONA:Hid (C.toArray.all (·.oneCell')=true):=af (all_oneCell_toArray (by rw[hC];exact EN _ _))
   have HBN:Hid ((wr.alloc (.cells C.toArray 206)).heap[wr.heap.size]?=some (.cells C.toArray 206 (0,0))):=af (heap_alloc_new wr _)
   have HRC:Hid ((wr.alloc (.cells C.toArray 206)).rangeAt wr.heap.size 0 C):=af (aE HBN.out rfl)
   have hsz:=hg.size
   have hok:=hLo _ (List.getElem_mem hlt)
   obtain⟨a,m,cc,rfl⟩:=an hown
   have em:=ar hown
   subst em
   by_cases h33:bt s L[k]=33
   ·obtain⟨HV,HK⟩:=yK h33
    obtain⟨t1,t2⟩:=DM hok h33
    have k0:(wr.alloc (.cells C.toArray 206)).cell? ⟨wr.heap.size,0,none⟩=some (.int .i64 2):=be HBN.out (by rw[hC,z8,HK];rfl)
    have HX:Hid (Calls Tryz.prog 111 #[.slice a (eY s F r L k).length cc,.agg C.toArray,.slice fa F.length fc] (wr.alloc (.cells C.toArray 206)) fun e w'=>∃ v,e=.returned v∧w'.ownsRow (wr.alloc (.cells C.toArray 206)).heap.size 176 24 v (eY s F r L (k+1)).length (dA wt (eY s F r L (k+1)))∧(wr.alloc (.cells C.toArray 206)).grownBy w' none):=af (by
     rw[hC,HV,iJ s F r L k hlt]
     unfold kI
     rw[if_pos h33]
     exact sR wt (eY s F r L k) a cc w.heap.size 2 (bt s (L[k]+1)) 0 (bt s (L[k]+2)) (bt s (L[k]+3)) F fa fc B2 _ (Nat.le_trans (sE hFl r hLo hp3 k hk) (by omega)) (aq HOW.out (ab (ag wr none) _) (fun g hg=>by cases hg)) t1 t2 hFl (aq HFR.out (ae HG.out (ab (ag wr none) _)) (fun g hg=>by cases hg)))
    obtain⟨nl,hnl⟩:∃ nl,nl=(eY s F r L k).length:=⟨_,rfl⟩
    rw[←hnl] at HX ⊢
    clear hnl hC HV HK hok how hcell hown hg
    go_wp2_with (first
     |(refine wpList_load_mid rfl 206 (.tmp 20) rfl gf (k*7) rfl C _ HRG.out Tryz.underlying206 rfl HIC.out ?_)
     |(refine ay rfl 206 (.tmp 9) (.tmp 21) rfl _ C rfl rfl hCl.symm HIC.out HONA.out ?_)
     |(refine wpList_load_mid rfl 206 (.tmp 9) rfl wr.heap.size 0 rfl C _ HRC.out Tryz.underlying206 rfl HIC.out ?_))
    go_at_call 111
    refine HX.out.mono ?_
    rintro e w1 ⟨v,rfl,ho1,hg1⟩
    have HO1:=af (bO ho1 (show w.heap.size≤(wr.alloc (.cells C.toArray 206)).heap.size by simp;omega))
    have HG1:Hid (w.grownBy w1 none):=af (ae HG.out (ae (ab (ag _ _) _) hg1))
    clear ho1 hg1
    go_wp2_with fail
    go_roundw
    case rel=>exact⟨k+1,by omega,by go_num,HO1.out,HG1.out⟩
    case measure=>simp[intOf];omega
   ·by_cases hc:aQ (bt s L[k])=true
    ·obtain⟨HV,HK⟩:=yy hc
     obtain⟨t1,t2⟩:=B0 hok hc
     obtain⟨l1,l2⟩:=BU hFl r hLo hp3 k hlt hc
     have k0:(wr.alloc (.cells C.toArray 206)).cell? ⟨wr.heap.size,0,none⟩=some (.int .i64 1):=be HBN.out (by rw[hC,z8,HK];rfl)
     have HX:Hid (Calls Tryz.prog 110 #[.slice a (eY s F r L k).length cc,.agg C.toArray,.slice fa F.length fc] (wr.alloc (.cells C.toArray 206)) fun e w'=>∃ v,e=.returned v∧w'.ownsRow (wr.alloc (.cells C.toArray 206)).heap.size 176 24 v (eY s F r L (k+1)).length (dA wt (eY s F r L (k+1)))∧(wr.alloc (.cells C.toArray 206)).grownBy w' none):=af (by
      rw[hC,HV,iJ s F r L k hlt]
      unfold kI
      rw[if_neg h33,if_pos hc]
      exact rn wt (eY s F r L k) a cc w.heap.size 1 (bt s L[k]) 0 (bt s (L[k]+1)) (bt s (L[k]+2)) F fa fc B2 _ l1 l2 (aq HOW.out (ab (ag wr none) _) (fun g hg=>by cases hg)) t1 t2 hFl (aq HFR.out (ae HG.out (ab (ag wr none) _)) (fun g hg=>by cases hg)))
     obtain⟨nl,hnl⟩:∃ nl,nl=(eY s F r L k).length:=⟨_,rfl⟩
     rw[←hnl] at HX ⊢
     clear hnl hC HV HK hok how hcell hown hg
     go_wp2_with (first
      |(refine wpList_load_mid rfl 206 (.tmp 20) rfl gf (k*7) rfl C _ HRG.out Tryz.underlying206 rfl HIC.out ?_)
      |(refine ay rfl 206 (.tmp 9) (.tmp 21) rfl _ C rfl rfl hCl.symm HIC.out HONA.out ?_)
      |(refine wpList_load_mid rfl 206 (.tmp 9) rfl wr.heap.size 0 rfl C _ HRC.out Tryz.underlying206 rfl HIC.out ?_))
     go_at_call 110
     refine HX.out.mono ?_
     rintro e w1 ⟨v,rfl,ho1,hg1⟩
     have HO1:=af (bO ho1 (show w.heap.size≤(wr.alloc (.cells C.toArray 206)).heap.size by simp;omega))
     have HG1:Hid (w.grownBy w1 none):=af (ae HG.out (ae (ab (ag _ _) _) hg1))
     clear ho1 hg1
     go_wp2_with fail
     go_roundw
     case rel=>exact⟨k+1,by omega,by go_num,HO1.out,HG1.out⟩
     case measure=>simp[intOf];omega
    ·have hcf:aQ (bt s L[k])=false:=by simpa using hc
     obtain⟨HV,HK⟩:=yB h33 hcf
     obtain⟨t1,t2,t3⟩:=tR hok h33 hcf
     have k0:(wr.alloc (.cells C.toArray 206)).cell? ⟨wr.heap.size,0,none⟩=some (.int .i64 3):=be HBN.out (by rw[hC,z8,HK];rfl)
     have HX:Hid (Calls Tryz.prog 112 #[.slice a (eY s F r L k).length cc,.agg C.toArray] (wr.alloc (.cells C.toArray 206)) fun e w'=>∃ v,e=.returned v∧w'.ownsRow (wr.alloc (.cells C.toArray 206)).heap.size 176 24 v (eY s F r L (k+1)).length (dA wt (eY s F r L (k+1)))∧(wr.alloc (.cells C.toArray 206)).grownBy w' none):=af (by
      rw[hC,HV,iJ s F r L k hlt]
      unfold kI
      rw[if_neg h33,if_neg hc]
      exact sV wt (eY s F r L k) a cc w.heap.size 3 0 (bt s (L[k]+1)) (bt s L[k]) (bt s (L[k]+2)) _ (Nat.le_trans (sE hFl r hLo hp3 k hk) (by omega)) (aq HOW.out (ab (ag wr none) _) (fun g hg=>by cases hg)) t2 t1 t3)
     obtain⟨nl,hnl⟩:∃ nl,nl=(eY s F r L k).length:=⟨_,rfl⟩
     rw[←hnl] at HX ⊢
     clear hnl hC HV HK hok how hcell hown hg
     go_wp2_with (first
      |(refine wpList_load_mid rfl 206 (.tmp 20) rfl gf (k*7) rfl C _ HRG.out Tryz.underlying206 rfl HIC.out ?_)
      |(refine ay rfl 206 (.tmp 9) (.tmp 21) rfl _ C rfl rfl hCl.symm HIC.out HONA.out ?_)
      |(refine wpList_load_mid rfl 206 (.tmp 9) rfl wr.heap.size 0 rfl C _ HRC.out Tryz.underlying206 rfl HIC.out ?_))
     go_at_call 112
     refine HX.out.mono ?_
     rintro e w1 ⟨v,rfl,ho1,hg1⟩
     have HO1:=af (bO ho1 (show w.heap.size≤(wr.alloc (.cells C.toArray 206)).heap.size by simp;omega))
     have HG1:Hid (w.grownBy w1 none):=af (ae HG.out (ae (ab (ag _ _) _) hg1))
     clear ho1 hg1
     go_wp2_with fail
     go_roundw
     case rel=>exact⟨k+1,by omega,by go_num,HO1.out,HG1.out⟩
     case measure=>simp[intOf];omega
  ·have hkl:k=L.length:=by omega
   subst hkl
   clear hg hown
   go_wp2_with fail
   go_ret
   exact⟨_,rfl,HOW.out,HG.out⟩
end Go.Proofs.YthlhbjnkohinmaaGreat
