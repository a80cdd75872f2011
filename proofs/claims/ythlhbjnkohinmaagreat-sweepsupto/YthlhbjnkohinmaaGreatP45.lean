import Derived.Test.YthlhbjnkohinmaaGreatP41
import Derived.Test.YthlhbjnkohinmaaGreatP33
import Derived.Test.YthlhbjnkohinmaaGreatP39
import Derived.Test.YthlhbjnkohinmaaGreatP22
import Derived.Test.YthlhbjnkohinmaaGreatP40
import Derived.Test.YthlhbjnkohinmaaGreatP36
import Derived.Test.YthlhbjnkohinmaaGreatP12
namespace Go.Proofs.YthlhbjnkohinmaaGreat
set_option maxRecDepth 100000
set_option maxHeartbeats 8000000
open Go.RowKit
def Cn (sn t:Int):ByteArray:=if sn<t then ⟨#[32,119]⟩++gL (t - sn - 1).toNat else ⟨#[32,118]⟩++gL t.toNat
def mB (sn:Int)(i:In):ByteArray:=i.facts.foldl (fun t q=>t++Cn sn q.2.2) (fQ i)
def EI (l:List UInt8):Nat:=l.foldl (fun a b=>a*10+(b.toNat - 48)) 0
theorem AN (l:List UInt8)(b:UInt8):EI (l++[b])=EI l*10+(b.toNat - 48):=by simp[EI]
theorem qD (n:Nat):(strOfNums [48+(n:Int) % 10]).data.toList=[UInt8.ofNat (48+n % 10)]:=by
 show [UInt8.ofNat (48+(n:Int) % 10).toNat]=_
 congr 2
theorem no:∀ n:Nat,EI (gL n).data.toList=n∧∀ b∈(gL n).data.toList,b≠32:=by
 intro n
 induction n using Nat.strongRecOn with
 |ind n ih=>
  have hd:(UInt8.ofNat (48+n % 10)).toNat=48+n % 10:=by rw[UInt8.toNat_ofNat'];omega
  have hne:UInt8.ofNat (48+n % 10)≠32:=fun e=>by
   have:=congrArg UInt8.toNat e
   rw[hd] at this
   simp at this
   omega
  rw[gL]
  by_cases h:n<10
  ·rw[dif_pos h,qD]
   refine⟨?_,fun b hb=>?_⟩
   ·show 0*10+((UInt8.ofNat (48+n % 10)).toNat - 48)=n
    rw[hd]
    omega
   ·rw[List.mem_singleton] at hb
    rw[hb]
    exact hne
  ·rw[dif_neg h]
   obtain⟨i1,i2⟩:=ih (n / 10) (by omega)
   have e:(gL (n / 10)++strOfNums [48+(n:Int) % 10]).data.toList=(gL (n / 10)).data.toList++[UInt8.ofNat (48+n % 10)]:=by
    rw[ByteArray.data_append,Array.toList_append,qD]
   rw[e]
   refine⟨?_,fun b hb=>?_⟩
   ·rw[AN,i1,hd]
    omega
   ·rcases List.mem_append.mp hb with hb|hb
    ·exact i2 b hb
    ·rw[List.mem_singleton] at hb
     rw[hb]
     exact hne
theorem uM {a b:Nat}(h:(gL a).data.toList=(gL b).data.toList):a=b:=by
 rw[←(no a).1,←(no b).1,h]
theorem wI:∀ {A A' B B':List UInt8} ,(∀ b∈A,b≠32)→(∀ b∈A',b≠32)→(B=[]∨∃ l,B=32::l)→(B'=[]∨∃ l,B'=32::l)→A++B=A'++B'→A=A'∧B=B'
 |[],[],B,B',_,_,_,_,h=>⟨rfl,h⟩
 |[],a::A',B,B',_,h2,h3,_,h=>by
  exfalso
  rw[List.nil_append] at h
  rcases h3 with h3|⟨l,h3⟩
  ·rw[h3] at h;cases h
  ·rw[h3] at h
   injection h with e _
   exact h2 a (by simp) e.symm
 |a::A,[],B,B',h1,_,_,h4,h=>by
  exfalso
  rw[List.nil_append] at h
  rcases h4 with h4|⟨l,h4⟩
  ·rw[h4] at h;cases h
  ·rw[h4] at h
   injection h with e _
   exact h1 a (by simp) e
 |a::A,a'::A',B,B',h1,h2,h3,h4,h=>by
  injection h with e1 e2
  obtain⟨i1,i2⟩:=wI (fun b hb=>h1 b (by simp[hb])) (fun b hb=>h2 b (by simp[hb])) h3 h4 e2
  exact⟨by rw[e1,i1],i2⟩
def q8 (sn t:Int):List UInt8:=(Cn sn t).data.toList
theorem ly (sn t:Int):q8 sn t=32::(if sn<t then (119::(gL (t - sn - 1).toNat).data.toList) else (118::(gL t.toNat).data.toList)):=by
 unfold q8 Cn
 split <;> (rw[ByteArray.data_append,Array.toList_append];rfl)
theorem sF (sn:Int)(i:In):(mB sn i).data.toList=(fQ i).data.toList++i.facts.flatMap fun q=>q8 sn q.2.2:=by
 unfold mB
 have:∀ (l:List aw) (z:ByteArray),(l.foldl (fun t q=>t++Cn sn q.2.2) z).data.toList=z.data.toList++l.flatMap fun q=>q8 sn q.2.2:=by
  intro l
  induction l with
  |nil=>intro z;simp
  |cons q l ih=>
   intro z
   rw[List.foldl_cons,ih,ByteArray.data_append,Array.toList_append,List.flatMap_cons,List.append_assoc]
   rfl
 exact this _ _
theorem pm (i:In):(fQ i).data.toList=UInt8.ofNat (48+i.rule)::vW i.facts:=by
 unfold fQ
 rw[ByteArray.data_append,Array.toList_append,jk]
 have:(strOfNums [48+(i.rule:Int)]).data.toList=[UInt8.ofNat (48+i.rule)]:=by
  show [UInt8.ofNat (48+(i.rule:Int)).toNat]=_
  congr 2
 rw[this]
 rfl
def Cp (l:List aw):Prop:=∀ q∈l,q.1<60∧0≤q.2.1∧q.2.1≤9∧0≤q.2.2
theorem rW {n:Nat}(h:n<256):(UInt8.ofNat n).toNat=n:=by rw[UInt8.toNat_ofNat'];omega
theorem AW (c:Nat)(v:Int):(cq c v).data.toList=[UInt8.ofNat (97+(c:Int) / 10).toNat,UInt8.ofNat (48+(c:Int) % 10).toNat,UInt8.ofNat (48+v).toNat]:=rfl
theorem FW {l:List aw}(h:Cp l):∀ b∈vW l,b≠32:=by
 intro b hb e
 unfold vW at hb
 obtain⟨q,hq,hm⟩:=List.mem_flatMap.mp hb
 obtain⟨h1,h2,h3,_⟩:=h q hq
 rw[AW] at hm
 simp only[List.mem_cons,List.not_mem_nil,or_false] at hm
 have hb':=congrArg UInt8.toNat e
 simp only[UInt8.reduceToNat] at hb'
 rcases hm with hm|hm|hm <;> (rw[hm,rW (by omega)] at hb';omega)
theorem yV:∀ {l m:List aw} ,Cp l→Cp m→vW l=vW m→l.map (fun q=>(q.1,q.2.1))=m.map (fun q=>(q.1,q.2.1))
 |[],[],_,_,_=>rfl
 |[],q::m,_,_,h=>by
  have:=congrArg List.length h
  rw[lw,lw] at this
  simp at this
 |q::l,[],_,_,h=>by
  have:=congrArg List.length h
  rw[lw,lw] at this
  simp at this
 |q::l,p::m,hl,hm,h=>by
  have e:∀ (x:aw) (k:List aw),vW (x::k)=UInt8.ofNat (97+(x.1:Int) / 10).toNat::UInt8.ofNat (48+(x.1:Int) % 10).toNat::UInt8.ofNat (48+x.2.1).toNat::vW k:=fun _ _=>rfl
  rw[e,e] at h
  injection h with a1 h
  injection h with a2 h
  injection h with a3 h
  have ih:=yV (fun x hx=>hl x (by simp[hx])) (fun x hx=>hm x (by simp[hx])) h
  obtain⟨b1,b2,b3,_⟩:=hl q (by simp)
  obtain⟨d1,d2,d3,_⟩:=hm p (by simp)
  have c1:=congrArg UInt8.toNat a1
  have c2:=congrArg UInt8.toNat a2
  have c3:=congrArg UInt8.toNat a3
  rw[rW (by omega),rW (by omega)] at c1 c2 c3
  rw[List.map_cons,List.map_cons,ih]
  congr 2
  ·omega
  ·omega
theorem yp:∀ {sn:Int}{l m:List aw} ,Cp l→Cp m→l.length=m.length→(l.flatMap fun q=>q8 sn q.2.2)=(m.flatMap fun q=>q8 sn q.2.2)→l.map (·.2.2)=m.map (·.2.2)
 |_,[],[],_,_,_,_=>rfl
 |_,[],q::m,_,_,h,_=>by cases h
 |_,q::l,[],_,_,h,_=>by cases h
 |sn,q::l,p::m,hl,hm,hn,h=>by
  rw[List.flatMap_cons,List.flatMap_cons,ly,ly,List.cons_append,List.cons_append] at h
  injection h with _ h
  have hb:∀ (k:List aw),(k.flatMap fun q=>q8 sn q.2.2)=[]∨∃ r,(k.flatMap fun q=>q8 sn q.2.2)=32::r:=fun k=>by
   cases k with
   |nil=>exact .inl rfl
   |cons x k=>
    rw[List.flatMap_cons,ly,List.cons_append]
    exact .inr ⟨_,rfl⟩
  have hno:∀ t:Int,∀ b∈(if sn<t then (119::(gL (t - sn - 1).toNat).data.toList) else (118::(gL t.toNat).data.toList)),b≠32:=fun t b hb=>by
   split at hb
   ·rcases List.mem_cons.mp hb with e|hb
    ·rw[e];decide
    ·exact (no _).2 b hb
   ·rcases List.mem_cons.mp hb with e|hb
    ·rw[e];decide
    ·exact (no _).2 b hb
  obtain⟨e1,e2⟩:=wI (hno _) (hno _) (hb l) (hb m) h
  have ih:=yp (fun x hx=>hl x (by simp[hx])) (fun x hx=>hm x (by simp[hx])) (by simpa using hn) e2
  have h1:=(hl q (by simp)).2.2.2
  have h2:=(hm p (by simp)).2.2.2
  have:q.2.2=p.2.2:=by
   split at e1
   ·split at e1
    ·injection e1 with _ e1
     have:=uM e1
     omega
    ·injection e1 with e1 _
     exact absurd e1 (by decide)
   ·split at e1
    ·injection e1 with e1 _
     exact absurd e1 (by decide)
    ·injection e1 with _ e1
     have:=uM e1
     omega
  rw[List.map_cons,List.map_cons,ih,this]
theorem F2:∀ {l m:List aw} ,l.map (fun q=>(q.1,q.2.1))=m.map (fun q=>(q.1,q.2.1))→l.map (·.2.2)=m.map (·.2.2)→l=m
 |[],[],_,_=>rfl
 |[],q::m,h,_=>by cases h
 |q::l,[],h,_=>by cases h
 |q::l,p::m,h1,h2=>by
  rw[List.map_cons,List.map_cons] at h1 h2
  injection h1 with a1 b1
  injection h2 with a2 b2
  rw[F2 b1 b2]
  congr 1
  obtain⟨x,y,z⟩:=q
  obtain⟨x',y',z'⟩:=p
  simp only[Prod.mk.injEq] at a1 a2 ⊢
  exact⟨a1.1,a1.2,a2⟩
theorem DT {sn:Int}{i j:In}(hi:Cp i.facts)(hj:Cp j.facts)(ri:i.rule≤9)(rj:j.rule≤9)(h:mB sn i=mB sn j):i.rule=j.rule∧i.facts=j.facts:=by
 have h1:(mB sn i).data.toList=(mB sn j).data.toList:=by rw[h]
 rw[sF,sF,pm,pm] at h1
 have hb:∀ (k:List aw),(k.flatMap fun q=>q8 sn q.2.2)=[]∨∃ r,(k.flatMap fun q=>q8 sn q.2.2)=32::r:=fun k=>by
  cases k with
  |nil=>exact .inl rfl
  |cons x k=>
   rw[List.flatMap_cons,ly,List.cons_append]
   exact .inr ⟨_,rfl⟩
 have hno:∀ {x:In},Cp x.facts→x.rule≤9→∀ b∈UInt8.ofNat (48+x.rule)::vW x.facts,b≠32:=fun {x} hx hr b hb=>by
  rcases List.mem_cons.mp hb with e|hb
  ·rw[e]
   intro e2
   have:=congrArg UInt8.toNat e2
   rw[rW (by omega)] at this
   simp only[UInt8.reduceToNat] at this
   omega
  ·exact FW hx b hb
 obtain⟨e1,e2⟩:=wI (hno hi ri) (hno hj rj) (hb _) (hb _) h1
 injection e1 with r1 r2
 have hr:=congrArg UInt8.toNat r1
 rw[rW (by omega),rW (by omega)] at hr
 have hm:=yV hi hj r2
 have hl:i.facts.length=j.facts.length:=by
  have:=congrArg List.length hm
  simpa using this
 exact⟨by omega,F2 hm (yp hi hj hl e2)⟩
def zX (s:ByteArray)(L:List Nat):List Int:=L.filterMap fun p=>if bt s p=33 then none else if aR (bt s p) then some (bt s p - 97) else none
theorem Ar (s:ByteArray)(L:List Nat)(p:Nat):zX s (L++[p])=zX s L++(if bt s p=33 then [] else if aR (bt s p) then [bt s p - 97] else []):=by
 unfold zX
 rw[List.filterMap_append]
 congr 1
 simp only[List.filterMap_cons,List.filterMap_nil]
 by_cases h1:bt s p=33
 ·rw[if_pos h1,if_pos h1]
 ·rw[if_neg h1,if_neg h1]
  by_cases h2:aR (bt s p)=true
  ·rw[if_pos h2,if_pos h2]
  ·rw[if_neg h2,if_neg h2]
theorem pi {α:Type}{P:List α→Prop}(h0:P [])(h1:∀ l a,P l→P (l++[a]))(l:List α):P l:=by
 have:∀ m:List α,P m.reverse:=by
  intro m
  induction m with
  |nil=>exact h0
  |cons a m ih=>
   rw[List.reverse_cons]
   exact h1 _ _ ih
 have:=this l.reverse
 rwa [List.reverse_reverse] at this
def lF (l:List aw):List Int:=l.map fun q=>(q.1:Int) / 10
theorem Ey {e e':fq}{c t1 t2:Int}{q:aw}(h:gb e c t1 t2 q=some e'):(q.1:Int) / 10=c - 97:=by
 unfold gb at h
 split at h
 ·rename_i hc;exact hc.symm
 ·cases h
theorem qh {z:Int}{s:ByteArray}{F:List aw}{r:Nat}:∀ (L:List Nat) (L0:List Nat) (l:List In),(∀ i∈l,i.rule=r∧lF i.facts=zX s L0)→∀ i∈L.foldl (kJ z s F) l,i.rule=r∧lF i.facts=zX s (L0++L)
 |[],L0,l,h,i,hi=>by
  rw[List.append_nil]
  exact h i hi
 |p::L,L0,l,h,i,hi=>by
  rw[List.foldl_cons] at hi
  have e:L0++p::L=(L0++[p])++L:=by simp
  rw[e]
  refine qh L (L0++[p]) _ (fun j hj=>?_) i hi
  rw[Ar]
  unfold kJ at hj
  by_cases h33:bt s p=33
  ·rw[if_pos h33] at hj ⊢
   rw[List.append_nil]
   exact h j (List.mem_filter.mp hj).1
  ·rw[if_neg h33] at hj ⊢
   by_cases hc:aR (bt s p)=true
   ·rw[if_pos hc] at hj ⊢
    obtain⟨i0,hi0,hm⟩:=List.mem_flatMap.mp hj
    unfold iF at hm
    obtain⟨q,_,hq⟩:=List.mem_filterMap.mp hm
    obtain⟨e',he,rfl⟩:=Option.map_eq_some_iff.mp hq
    obtain⟨h1,h2⟩:=h i0 hi0
    refine⟨h1,?_⟩
    show lF (i0.facts++[q])=_
    unfold lF at h2 ⊢
    rw[List.map_append,h2]
    simp only[List.map_cons,List.map_nil]
    rw[Ey he]
   ·rw[if_neg hc] at hj ⊢
    rw[List.append_nil]
    exact h j (List.mem_filter.mp hj).1
def qi (s:ByteArray)(R:List ay)(i:In):Prop:=i.rule<R.length∧i.facts.length≤3∧lF i.facts=zX s (R.getD i.rule (0,[],[])).2.1
theorem wM {s:ByteArray}{F:List aw}{R:List ay}(hF:rk F)(hFl:F.length≤60)(hR:∀ r∈R,mj s r){i:In}(h:i∈bz 0 s F R R.length):qi s R i:=by
 obtain⟨h1,h2,_⟩:=mH hF hFl hR h
 unfold bz at h
 obtain⟨k,hk,hm⟩:=List.mem_flatMap.mp h
 unfold dy at hm
 obtain⟨e1,e2⟩:=qh (R.getD k (0,[],[])).2.1 [] [In.start k] (fun j hj=>by rw[List.mem_singleton] at hj;rw[hj];exact⟨rfl,rfl⟩) i hm
 refine⟨h1,h2,?_⟩
 have e3:i.rule=k:=e1
 rw[e3]
 simpa using e2
theorem CS {l m:List aw}(hc:lF l=lF m)(hd:∀ k,k<l.length→DW l k=DW m k):l.map (·.1)=m.map (·.1):=by
 have hl:l.length=m.length:=by
  have:=congrArg List.length hc
  simpa [lF] using this
 refine List.ext_getElem (by simpa using hl) (fun k h1 h2=>?_)
 have k1:k<l.length:=by simpa using h1
 have k2:k<m.length:=by simpa using h2
 have a:(lF l)[k]'(by simpa [lF] using k1)=(lF m)[k]'(by simpa [lF] using k2):=by simp only[hc]
 have b:=hd k k1
 unfold lF at a
 unfold DW uJ at b
 simp only[List.getElem_map,List.getD_eq_getElem?_getD,List.getElem?_eq_getElem k1,List.getElem?_eq_getElem k2,Option.getD_some] at a b ⊢
 omega
theorem nJ {s:ByteArray}{R:List ay}{i j:In}(hi:qi s R i)(hj:qi s R j)(h:bX i=bX j):i.rule=j.rule∧i.facts.map (·.1)=j.facts.map (·.1):=by
 have b1:=qE (md i.facts) i.facts.length hi.2.1
 have b2:=qE (md j.facts) j.facts.length hj.2.1
 unfold bX kF at h
 have hr:i.rule=j.rule:=by omega
 have hp:rJ (DW i.facts) i.facts.length=rJ (DW j.facts) j.facts.length:=by omega
 have hc:lF i.facts=lF j.facts:=by rw[hi.2.2,hj.2.2,hr]
 have hl:i.facts.length=j.facts.length:=by
  have:=congrArg List.length hc
  simpa [lF] using this
 refine⟨hr,CS hc ?_⟩
 have h3:=hi.2.1
 rw[←hl] at hp
 have d1:=md i.facts
 have d2:=md j.facts
 generalize i.facts.length=n at hp h3
 intro k hk
 match n,h3 with
 |0,_=>omega
 |1,_=>
  simp only[rJ] at hp
  have:k=0:=by omega
  subst this
  omega
 |2,_=>
  simp only[rJ] at hp
  have a0:=d1 0;have a1:=d1 1;have c0:=d2 0;have c1:=d2 1
  have:k=0∨k=1:=by omega
  rcases this with e|e <;> subst e <;> omega
 |3,_=>
  simp only[rJ] at hp
  have a0:=d1 0;have a1:=d1 1;have a2:=d1 2;have c0:=d2 0;have c1:=d2 1;have c2:=d2 2
  have:k=0∨k=1∨k=2:=by omega
  rcases this with e|e|e <;> subst e <;> omega
theorem BQ {l:List aw}:∀ {q:aw},q∈l→q.2.2≤b8 l:=by
 suffices h:∀ (l:List aw) (m:Int),m≤l.foldl (fun m q=>if q.2.2>m then q.2.2 else m) m∧∀ q∈l,q.2.2≤l.foldl (fun m q=>if q.2.2>m then q.2.2 else m) m from fun {q} hq=>(h l 0).2 q hq
 intro l
 induction l with
 |nil=>intro m;exact⟨Int.le_refl m,fun q hq=>by cases hq⟩
 |cons p l ih=>
  intro m
  rw[List.foldl_cons]
  obtain⟨i1,i2⟩:=ih (if p.2.2>m then p.2.2 else m)
  have:m≤(if p.2.2>m then p.2.2 else m)∧p.2.2≤(if p.2.2>m then p.2.2 else m):=by split <;> omega
  refine⟨by omega,fun q hq=>?_⟩
  rcases List.mem_cons.mp hq with e|hq
  ·rw[e];omega
  ·exact i2 q hq
theorem EV {l:List aw}{t:Int}(h0:0≤t)(h:∀ q∈l,q.2.2≤t):b8 l≤t:=by
 suffices g:∀ (l:List aw) (m:Int),m≤t→(∀ q∈l,q.2.2≤t)→l.foldl (fun m q=>if q.2.2>m then q.2.2 else m) m≤t from g l 0 h0 h
 intro l
 induction l with
 |nil=>intro m hm _;exact hm
 |cons p l ih=>
  intro m hm hq
  rw[List.foldl_cons]
  refine ih _ ?_ (fun q h=>hq q (by simp[h]))
  have:=hq p (by simp)
  split <;> omega
def sL (Rs:List In):Nat→Option Int:=Rs.foldl (fun m i=>cG m (bX i) (some (b8 i.facts))) (fun _=>none)
theorem nN (Rs:List In)(i:In):sL (Rs++[i])=cG (sL Rs) (bX i) (some (b8 i.facts)):=by simp[sL]
theorem sa:∀ {Rs:List In}{p:Nat}{t:Int} ,sL Rs p=some t→∃ A r B,Rs=A++r::B∧bX r=p∧b8 r.facts=t∧∀ x∈B,bX x≠p:=by
 intro Rs
 induction Rs using pi with
 |h0=>intro p t h;cases h
 |h1 Rs i ih=>
  intro p t h
  rw[nN] at h
  by_cases e:p=bX i
  ·rw[e,aW] at h
   exact⟨Rs,i,[],rfl,e.symm,by simpa using h,fun x hx=>by cases hx⟩
  ·rw[bF _ _ _ e] at h
   obtain⟨A,r,B,e1,e2,e3,e4⟩:=ih h
   refine⟨A,r,B++[i],by rw[e1];simp,e2,e3,fun x hx=>?_⟩
   rcases List.mem_append.mp hx with hx|hx
   ·exact e4 x hx
   ·rw[List.mem_singleton] at hx
    rw[hx]
    exact fun c=>e c.symm
theorem AX:∀ {Rs:List In}{p:Nat} ,sL Rs p=none→∀ r∈Rs,bX r≠p:=by
 intro Rs
 induction Rs using pi with
 |h0=>intro p _ r hr;cases hr
 |h1 Rs i ih=>
  intro p h r hr
  rw[nN] at h
  by_cases e:p=bX i
  ·rw[e,aW] at h;cases h
  ·rw[bF _ _ _ e] at h
   rcases List.mem_append.mp hr with hr|hr
   ·exact ih h r hr
   ·rw[List.mem_singleton] at hr
    rw[hr]
    exact fun c=>e c.symm
structure my (P:aJ)(f:Nat→Int×Option Int):Prop where
 snap:0≤P.snap
 made:0≤P.made
 wr:∀ c v,P.wr c=some v→P.snap<P.tm c∧P.tm c≤P.snap+P.made
 his:∀ c v,(f c).2=some v→0<(f c).1∧(f c).1≤P.snap
structure iP (s:ByteArray)(R:List ay)(P:aJ)(f:Nat→Int×Option Int)(Rs:List In):Prop where
 shape:∀ r∈Rs,qi s R r
 facts:∀ r∈Rs,Cp r.facts
 now:∀ r∈Rs,∀ q∈r.facts,cK P f q.1=some q.2∨(∃ v,P.wr q.1=some v)∧b8 r.facts<P.tm q.1
 clock:∀ r∈Rs,b8 r.facts≤P.snap+P.made
 mono:Rs.Pairwise fun r r'=>bX r=bX r'→b8 r.facts≤b8 r'.facts
theorem yo {P:aJ}{f:Nat→Int×Option Int}{q:aw}(h:q∈di P f 60):q.1<60∧cK P f q.1=some q.2:=by
 unfold di at h
 obtain⟨c,hc,hm⟩:=List.mem_filterMap.mp h
 cases hs:cK P f c with
 |none=>rw[hs] at hm;cases hm
 |some p=>
  rw[hs] at hm
  simp only[Option.map_some,Option.some.injEq] at hm
  rw[←hm]
  exact⟨by simpa using hc,hs⟩
theorem nQ {P:aJ}{f:Nat→Int×Option Int}(ht:my P f){c:Nat}{p:Int×Int}(h:cK P f c=some p):0<p.2∧p.2≤P.snap+P.made∧∀ v,P.wr c=some v→p.2=P.tm c:=by
 have h1:=ht.snap
 have h2:=ht.made
 unfold cK at h
 cases hw:P.wr c with
 |none=>
  rw[hw] at h
  simp only at h
  cases hf:(f c).2 with
  |none=>rw[hf] at h;cases h
  |some v=>
   rw[hf] at h
   simp only[Option.map_some,Option.some.injEq] at h
   have:=ht.his c v hf
   rw[←h]
   exact⟨this.1,by simp only;omega,fun v hv=>by cases hv⟩
 |some u=>
  rw[hw] at h
  simp only at h
  cases u with
  |none=>cases h
  |some v=>
   simp only[Option.map_some,Option.some.injEq] at h
   have:=ht.wr c _ hw
   rw[←h]
   exact⟨by simp only;omega,by simp only;omega,fun _ _=>rfl⟩
theorem qg {l m:List aw}(h:l.map (·.1)=m.map (·.1)){k:Nat}(hk:k<l.length):∃ h2:k<m.length,l[k].1=m[k].1:=by
 have hl:l.length=m.length:=by
  have:=congrArg List.length h
  simpa using this
 refine⟨by omega,?_⟩
 have a:(l.map (·.1))[k]'(by simpa using hk)=(m.map (·.1))[k]'(by simpa using (by omega:k<m.length)):=by simp only[h]
 simpa using a
theorem pL {s:ByteArray}{R:List ay}{P:aJ}{f:Nat→Int×Option Int}{Rs:List In}(h:iP s R P f Rs)(ht:my P f){r i:In}(hr:r∈Rs)(hi:∀ q∈i.facts,cK P f q.1=some q.2)(hc:r.facts.map (·.1)=i.facts.map (·.1)):r.facts=i.facts∨b8 r.facts<b8 i.facts:=by
 by_cases hall:∀ q∈r.facts,cK P f q.1=some q.2
 ·left
  have hl:r.facts.length=i.facts.length:=by
   have:=congrArg List.length hc
   simpa using this
  refine List.ext_getElem hl (fun k h1 h2=>?_)
  obtain⟨_,e⟩:=qg hc h1
  have a:=hall _ (List.getElem_mem h1)
  have b:=hi _ (List.getElem_mem h2)
  rw[e,b] at a
  simp only[Option.some.injEq] at a
  exact Prod.ext e a.symm
 ·right
  simp only[Classical.not_forall] at hall
  obtain⟨q,hq,hn⟩:=hall
  rcases h.now r hr q hq with e|⟨⟨v,hv⟩,e⟩
  ·exact absurd e hn
  ·obtain⟨k,hk,e1⟩:=List.getElem_of_mem hq
   obtain⟨k2,e2⟩:=qg hc hk
   have b:=hi _ (List.getElem_mem k2)
   rw[e1] at e2
   rw[←e2] at b
   have:=(nQ ht b).2.2 v hv
   have:=BQ (List.getElem_mem k2)
   omega
theorem D0 {s:ByteArray}{R:List ay}{P:aJ}{f:Nat→Int×Option Int}{Rs:List In}(h:iP s R P f Rs)(ht:my P f){i:In}(hi:qi s R i)(hn:∀ q∈i.facts,cK P f q.1=some q.2):wy (sL Rs) i=true↔∃ r∈Rs,r.rule=i.rule∧r.facts=i.facts:=by
 unfold wy
 constructor
 ·intro hm
  simp only[Bool.and_eq_true,beq_iff_eq] at hm
  obtain⟨m1,m2⟩:=hm
  cases hk:sL Rs (bX i) with
  |none=>rw[hk] at m1;cases m1
  |some t=>
   rw[hk] at m2
   simp only[Option.getD_some] at m2
   obtain⟨A,r,B,e1,e2,e3,_⟩:=sa hk
   have hr:r∈Rs:=by rw[e1];simp
   obtain⟨p1,p2⟩:=nJ (h.shape r hr) hi e2
   rcases pL h ht hr hn p2 with e|e
   ·exact⟨r,hr,p1,e⟩
   ·omega
 ·rintro⟨r,hr,h1,h2⟩
  have hp:bX r=bX i:=by unfold bX kF;rw[h1,h2]
  cases hk:sL Rs (bX i) with
  |none=>exact absurd hp (AX hk r hr)
  |some t=>
   obtain⟨A,r',B,e1,e2,e3,e4⟩:=sa hk
   have hr':r'∈Rs:=by rw[e1];simp
   obtain⟨p1,p2⟩:=nJ (h.shape r' hr') hi e2
   simp only[Option.isSome_some,Option.getD_some,Bool.true_and,beq_iff_eq]
   rcases pL h ht hr' hn p2 with e|e
   ·rw[←e3,e]
   ·exfalso
    have hm:=h.mono
    rw[e1,List.pairwise_append] at hm
    rw[e1] at hr
    rcases List.mem_append.mp hr with hr|hr
    ·have:=hm.2.2 r hr r' (by simp) (by rw[hp,e2])
     rw[h2] at this
     omega
    ·rcases List.mem_cons.mp hr with hr|hr
     ·rw[hr] at h2
      rw[h2] at e
      omega
     ·exact e4 r hr hp
theorem my.put {P:aJ}{f:Nat→Int×Option Int}(h:my P f)(c:Nat)(v:Option Int):my (P.put c v) f:=by
 have h1:=h.made
 refine⟨h.snap,by show 0≤P.made+1;omega,fun d u hu=>?_,h.his⟩
 show P.snap<cG P.tm c (P.snap+(P.made+1)) d∧cG P.tm c (P.snap+(P.made+1)) d≤P.snap+(P.made+1)
 by_cases e:d=c
 ·rw[e,aW]
  omega
 ·have hu':P.wr d=some u:=by
   have:cG P.wr c (some v) d=some u:=hu
   rw[bF _ _ _ e] at this
   exact this
  rw[bF _ _ _ e]
  have:=h.wr d u hu'
  omega
theorem iP.put {s:ByteArray}{R:List ay}{P:aJ}{f:Nat→Int×Option Int}{Rs:List In}(h:iP s R P f Rs)(c:Nat)(v:Option Int):iP s R (P.put c v) f Rs:=by
 refine⟨h.shape,h.facts,fun r hr q hq=>?_,fun r hr=>?_,h.mono⟩
 ·by_cases e:q.1=c
  ·right
   refine⟨⟨v,?_⟩,?_⟩
   ·show cG P.wr c (some v) q.1=some v
    rw[e,aW]
   ·show _<cG P.tm c (P.snap+(P.made+1)) q.1
    rw[e,aW]
    have:=h.clock r hr
    omega
  ·have e1:cK (P.put c v) f q.1=cK P f q.1:=by
    unfold cK
    have a1:(P.put c v).wr q.1=P.wr q.1:=bF _ _ _ e
    have a2:(P.put c v).tm q.1=P.tm q.1:=bF _ _ _ e
    rw[a1,a2]
   rw[e1]
   rcases h.now r hr q hq with k|⟨⟨u,k⟩,k2⟩
   ·exact .inl k
   ·refine .inr ⟨⟨u,?_⟩,?_⟩
    ·show cG P.wr c (some v) q.1=some u
     rw[bF _ _ _ e]
     exact k
    ·show _<cG P.tm c (P.snap+(P.made+1)) q.1
     rw[bF _ _ _ e]
     exact k2
 ·have:=h.clock r hr
  show b8 r.facts≤P.snap+(P.made+1)
  omega
theorem my.puts {f:Nat→Int×Option Int}:∀ (ws:List (Nat×Option Int)) {P:aJ},my P f→my (puts P ws) f
 |[],_,h=>h
 |q::ws,_,h=>my.puts ws (h.put q.1 q.2)
theorem iP.puts {s:ByteArray}{R:List ay}{f:Nat→Int×Option Int}{Rs:List In}:∀ (ws:List (Nat×Option Int)) {P:aJ},iP s R P f Rs→iP s R (puts P ws) f Rs
 |[],_,h=>h
 |q::ws,_,h=>iP.puts ws (h.put q.1 q.2)
theorem iP.fire {s:ByteArray}{R:List ay}{P:aJ}{f:Nat→Int×Option Int}{Rs:List In}(h:iP s R P f Rs)(ht:my P f){i:In}(hi:qi s R i)(hF:Cp i.facts)(hn:∀ q∈i.facts,cK P f q.1=some q.2):iP s R P f (Rs++[i]):=by
 have hm:∀ r,r∈Rs++[i]→r∈Rs∨r=i:=fun r hr=>by
  rcases List.mem_append.mp hr with hr|hr
  ·exact .inl hr
  ·exact .inr (by simpa using hr)
 refine⟨fun r hr=>?_,fun r hr=>?_,fun r hr q hq=>?_,fun r hr=>?_,?_⟩
 ·rcases hm r hr with k|k
  ·exact h.shape r k
  ·rw[k];exact hi
 ·rcases hm r hr with k|k
  ·exact h.facts r k
  ·rw[k];exact hF
 ·rcases hm r hr with k|k
  ·exact h.now r k q hq
  ·rw[k] at hq
   exact .inl (hn q hq)
 ·rcases hm r hr with k|k
  ·exact h.clock r k
  ·rw[k]
   have a1:=ht.snap
   have a2:=ht.made
   exact EV (by omega) (fun q hq=>(nQ ht (hn q hq)).2.1)
 ·rw[List.pairwise_append]
  refine⟨h.mono,List.pairwise_singleton _ _,fun r hr r' hr' hp=>?_⟩
  rw[List.mem_singleton] at hr'
  subst hr'
  obtain⟨_,p2⟩:=nJ (h.shape r hr) hi hp
  rcases pL h ht hr hn p2 with e|e
  ·rw[e];exact Int.le_refl _
  ·omega
def ik (Φ:World→Prop):eW:=fun w f=>(∀ b∈f,b<w.heap.size)∧∀ w':World,(∀ b∈f,w'.heap[b]?=w.heap[b]?)→Φ w'
theorem ik.framed (Φ:World→Prop):bT (ik Φ):=by
 rintro S w w' f ⟨h1,h2⟩ hf hs
 refine⟨fun b hb=>Nat.lt_of_lt_of_le (h1 b hb) hf.size,fun w2 h=>h2 w2 (fun b hb=>(h b hb).trans (hf.block b (h1 b hb) (hs b hb)))⟩
theorem ik.within (Φ:World→Prop):bW (ik Φ):=fun h g hg=>h.1 g hg
theorem ik.now {Φ:World→Prop}{w:World}{f:List Nat}(h:ik Φ w f):Φ w:=h.2 w (fun _ _=>rfl)
def Eu (r:El):eW:=ik fun w=>bP w 0 r.2.1 r.1.1 r.2.2
def mb (X:ap):List Nat:=(List.range 8).filterMap fun k=>(X.ses k).mks
theorem gD {X:ap}{g:Nat}:g∈mb X↔∃ k,k<8∧(X.ses k).mks=some g:=by
 unfold mb
 rw[List.mem_filterMap]
 constructor
 ·rintro⟨k,hk,h⟩
  exact⟨k,by simpa using hk,h⟩
 ·rintro⟨k,hk,h⟩
  exact⟨k,by simpa using hk,h⟩
theorem jH.fr {m:Option Nat}{fm:Nat→Option Int}{S:List Nat}{w w':World}(h:jH m fm w)(hf:Fr S w w')(hs:∀ g,m=some g→g∉S):jH m fm w':=by
 cases m with
 |none=>exact h
 |some g=>
  obtain⟨Z,h1,h2⟩:=h
  exact⟨Z,(hf.block g (lt_of_block h1) (hs g rfl)).trans h1,h2⟩
theorem jH.lt {g:Nat}{fm:Nat→Option Int}{w:World}(h:jH (some g) fm w):g<w.heap.size:=by
 obtain⟨Z,h1,_⟩:=h
 exact lt_of_block h1
def l9 (X:ap)(F:dN):eW:=fun w f=>(∀ k,k<8→jH (X.ses k).mks (F k) w)∧f=mb X
theorem l9.framed (X:ap)(F:dN):bT (l9 X F):=by
 rintro S w w' f ⟨h1,rfl⟩ hf hs
 exact⟨fun k hk=>(h1 k hk).fr hf (fun g hg=>hs g (gD.mpr ⟨k,hk,hg⟩)),rfl⟩
theorem l9.within (X:ap)(F:dN):bW (l9 X F):=by
 rintro w f ⟨h1,rfl⟩ g hg
 obtain⟨k,hk,e⟩:=gD.mp hg
 have:=h1 k hk
 rw[e] at this
 exact this.lt
def ku (x:Nat)(X:ap)(F:dN):eW:=bY (aV x X) (bY (l9 X F) (Eu X.src))
theorem ku.framed (x:Nat)(X:ap)(F:dN):bT (ku x X F):=bY.framed (aV.framed _ _) (bY.framed (l9.framed _ _) (ik.framed _))
theorem ku.within (x:Nat)(X:ap)(F:dN):bW (ku x X F):=bY.within (aV.within _ _) (bY.within (l9.within _ _) (ik.within _))
def bg (x:Nat)(X:ap)(F:dN):eW:=fun w f=>∃ X0,ku x X0 F w f∧X0.plain=X
theorem bg.framed (x:Nat)(X:ap)(F:dN):bT (bg x X F):=by
 rintro S w w' f ⟨X0,h,e⟩ hf hs
 exact⟨X0,ku.framed _ _ _ h hf hs,e⟩
theorem bg.within (x:Nat)(X:ap)(F:dN):bW (bg x X F):=by
 rintro w f ⟨X0,h,e⟩
 exact ku.within _ _ _ h
theorem lP {α β:Type}{f g:α→Option β}:∀ {l:List α},(∀ a∈l,g a=f a∨g a=none)→(l.filterMap g).Sublist (l.filterMap f)
 |[],_=>List.Sublist.refl _
 |a::l,h=>by
  have ih:=lP (f:=f) (g:=g) (l:=l) (fun b hb=>h b (by simp[hb]))
  rcases h a (by simp) with e|e
  ·rw[List.filterMap_cons,List.filterMap_cons,e]
   cases f a with
   |none=>exact ih
   |some b=>exact ih.cons_cons b
  ·rw[List.filterMap_cons,List.filterMap_cons,e]
   cases f a with
   |none=>exact ih
   |some b=>exact ih.cons b
theorem ku.open {x:Nat}{X:ap}{F:dN}{w:World}{f:List Nat}(h:ku x X F w f)(hn:f.Nodup):
  ∃ f0,aV x X w f0∧f0.Nodup∧(∀ y∈f0,y∈f)∧∀ X' w',jS X X'→X'.src=X.src→cM (aV x X') f0 w w'→cM (ku x X' (cy X X' F)) f w w':=by
 have hwi:=ku.within _ _ _ h
 obtain⟨f0,f1,h0,⟨f2,f3,⟨h2,rfl⟩,h3,rfl⟩,rfl⟩:=h
 rw[List.nodup_append] at hn
 obtain⟨n0,n1,d01⟩:=hn
 rw[List.nodup_append] at n1
 obtain⟨n2,n3,d23⟩:=n1
 refine⟨f0,h0,n0,fun y hy=>List.mem_append_left _ hy,fun X' w' hm hs ht=>?_⟩
 obtain⟨f0',a0,n0',s0,r0⟩:=ht
 have hsub:(mb X').Sublist (mb X):=lP (fun k hk=>by
  have hk8:k<8:=by simpa using hk
  by_cases e:(X'.ses k).num=(X.ses k).num
  ·exact .inl ((hm k hk8).1 e)
  ·exact .inr ((hm k hk8).2 e))
 have hin:∀ y∈mb X'++f3,y∈mb X++f3:=fun y hy=>by
  rcases List.mem_append.mp hy with hy|hy
  ·exact List.mem_append_left _ (hsub.subset hy)
  ·exact List.mem_append_right _ hy
 refine⟨f0'++(mb X'++f3),⟨f0',_,a0,⟨_,f3,⟨fun k hk=>?_,rfl⟩,?_,rfl⟩,rfl⟩,?_,?_,?_⟩
 ·unfold cy
  by_cases e:(X'.ses k).num=(X.ses k).num
  ·rw[if_pos e,(hm k hk).1 e]
   exact (h2 k hk).fr r0 (fun g hg hf=>d01 g hf g (List.mem_append_left _ (gD.mpr ⟨k,hk,hg⟩)) rfl)
  ·rw[if_neg e,(hm k hk).2 e]
   intro p _
   rfl
 ·rw[hs]
  exact ik.framed _ h3 r0 (fun g hg hf=>d01 g hf g (List.mem_append_right _ hg) rfl)
 ·rw[List.nodup_append]
  refine⟨n0',?_,?_⟩
  ·rw[List.nodup_append]
   exact⟨n2.sublist hsub,n3,fun a ha b hb=>d23 a (hsub.subset ha) b hb⟩
  ·intro a ha b hb e
   subst e
   have hb':=hin a hb
   rcases s0 a ha with h|h
   ·exact d01 a h a hb' rfl
   ·have:=hwi a (List.mem_append_right _ hb')
    omega
 ·intro y hy
  rcases List.mem_append.mp hy with hy|hy
  ·rcases s0 y hy with h|h
   ·exact .inl (List.mem_append_left _ h)
   ·exact .inr h
  ·exact .inl (List.mem_append_right _ (hin y hy))
 ·exact r0.mono (fun y hy=>.inl (List.mem_append_left _ hy))
theorem bg.call {x:Nat}{X X':ap}{F:dN}{w:World}{f:List Nat}{fn:Nat}{args:Array Value}{v:Value}(Y:ap→ap)(h:bg x X F w f)(hn:f.Nodup)
  (hY:∀ X0,X0.plain=X→(Y X0).plain=X'∧(Y X0).src=X0.src∧jS X0 (Y X0))
  (c:∀ X0 f0,X0.plain=X→aV x X0 w f0→f0.Nodup→Calls Tryz.prog fn args w fun e w'=>e=.returned v∧cM (aV x (Y X0)) f0 w w') :
  Calls Tryz.prog fn args w fun e w'=>e=.returned v∧cM (bg x X' (cy X X' F)) f w w':=by
 obtain⟨X0,h0,e0⟩:=h
 obtain⟨p1,p2,p3⟩:=hY X0 e0
 obtain⟨f0,a0,nf0,_,hcl⟩:=h0.open hn
 refine (c X0 f0 e0 a0 nf0).mono ?_
 rintro e w' ⟨rfl,ht⟩
 refine⟨rfl,?_⟩
 obtain⟨f',a,n,s,r⟩:=hcl _ _ p3 p2 ht
 subst e0
 subst p1
 exact⟨f',⟨_,a,rfl⟩,n,s,r⟩
theorem bg.see {x:Nat}{X:ap}{F:dN}{w:World}{f:List Nat}{fn:Nat}{args:Array Value}{v:Value}(h:bg x X F w f)(hn:f.Nodup)
  (c:∀ X0 f0,X0.plain=X→ku x X0 F w f→aV x X0 w f0→Calls Tryz.prog fn args w fun e w'=>e=.returned v∧Fr [] w w') :
  Calls Tryz.prog fn args w fun e w'=>e=.returned v∧cM (bg x X F) f w w':=by
 obtain⟨X0,h0,e0⟩:=h
 obtain⟨f0,a0,_,_,_⟩:=h0.open hn
 refine (c X0 f0 e0 h0 a0).mono ?_
 rintro e w' ⟨rfl,r⟩
 exact⟨rfl,f,bg.framed _ _ _ ⟨X0,h0,e0⟩ r (by simp),hn,fun _ hy=>.inl hy,r.mono (fun k hk=>by cases hk)⟩
end Go.Proofs.YthlhbjnkohinmaaGreat
