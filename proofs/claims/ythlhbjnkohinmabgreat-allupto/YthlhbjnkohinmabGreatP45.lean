import Derived.Test.YthlhbjnkohinmabGreatP41
import Derived.Test.YthlhbjnkohinmabGreatP33
import Derived.Test.YthlhbjnkohinmabGreatP39
import Derived.Test.YthlhbjnkohinmabGreatP22
import Derived.Test.YthlhbjnkohinmabGreatP40
import Derived.Test.YthlhbjnkohinmabGreatP36
import Derived.Test.YthlhbjnkohinmabGreatP12
namespace Go.Proofs.YthlhbjnkohinmabGreat
set_option maxRecDepth 100000
set_option maxHeartbeats 8000000
open Go.RowKit
def DY (sn t:Int):ByteArray:=if sn<t then ⟨#[32,119]⟩++gM (t - sn - 1).toNat else ⟨#[32,118]⟩++gM t.toNat
def nF (sn:Int)(i:In):ByteArray:=i.facts.foldl (fun t q=>t++DY sn q.2.2) (fR i)
def Eh (l:List UInt8):Nat:=l.foldl (fun a b=>a*10+(b.toNat - 48)) 0
theorem AF (l:List UInt8)(b:UInt8):Eh (l++[b])=Eh l*10+(b.toNat - 48):=by simp[Eh]
theorem qD (n:Nat):(strOfNums [48+(n:Int) % 10]).data.toList=[UInt8.ofNat (48+n % 10)]:=by
 show [UInt8.ofNat (48+(n:Int) % 10).toNat]=_
 congr 2
theorem mW:∀ n:Nat,Eh (gM n).data.toList=n∧∀ b∈(gM n).data.toList,b≠32:=by
 intro n
 induction n using Nat.strongRecOn with
 |ind n ih=>
  have hd:(UInt8.ofNat (48+n % 10)).toNat=48+n % 10:=by rw[UInt8.toNat_ofNat'];omega
  have hne:UInt8.ofNat (48+n % 10)≠32:=fun e=>by
   have:=congrArg UInt8.toNat e
   rw[hd] at this
   simp at this
   omega
  rw[gM]
  by_cases h:n<10
  ·rw[dif_pos h,qD]
   refine⟨?_,fun b hb=>?_⟩
   ·show 0*10+((UInt8.ofNat (48+n % 10)).toNat - 48)=n
    rw[hd]
    omega
   ·rw[List.mem_singleton] at hb
    rw[hb]
    exact hne
  ·rw[dif_neg h]
   obtain⟨i1,i2⟩:=ih (n / 10) (by omega)
   have e:(gM (n / 10)++strOfNums [48+(n:Int) % 10]).data.toList=(gM (n / 10)).data.toList++[UInt8.ofNat (48+n % 10)]:=by
    rw[ByteArray.data_append,Array.toList_append,qD]
   rw[e]
   refine⟨?_,fun b hb=>?_⟩
   ·rw[AF,i1,hd]
    omega
   ·rcases List.mem_append.mp hb with hb|hb
    ·exact i2 b hb
    ·rw[List.mem_singleton] at hb
     rw[hb]
     exact hne
theorem vn {a b:Nat}(h:(gM a).data.toList=(gM b).data.toList):a=b:=by
 rw[←(mW a).1,←(mW b).1,h]
theorem xn:∀ {A A' B B':List UInt8} ,(∀ b∈A,b≠32)→(∀ b∈A',b≠32)→(B=[]∨∃ l,B=32::l)→(B'=[]∨∃ l,B'=32::l)→A++B=A'++B'→A=A'∧B=B'
 |[],[],B,B',_,_,_,_,h=>⟨rfl,h⟩
 |[],a::A',B,B',_,h2,h3,_,h=>by
  exfalso
  rw[List.nil_append] at h
  rcases h3 with h3|⟨l,h3⟩
  ·rw[h3] at h;cases h
  ·rw[h3] at h
   injection h with e _
   exact h2 a (by simp) e.symm
 |a::A,[],B,B',h1,_,_,h4,h=>by
  exfalso
  rw[List.nil_append] at h
  rcases h4 with h4|⟨l,h4⟩
  ·rw[h4] at h;cases h
  ·rw[h4] at h
   injection h with e _
   exact h1 a (by simp) e
 |a::A,a'::A',B,B',h1,h2,h3,h4,h=>by
  injection h with e1 e2
  obtain⟨i1,i2⟩:=xn (fun b hb=>h1 b (by simp[hb])) (fun b hb=>h2 b (by simp[hb])) h3 h4 e2
  exact⟨by rw[e1,i1],i2⟩
def rC (sn t:Int):List UInt8:=(DY sn t).data.toList
theorem lx (sn t:Int):rC sn t=32::(if sn<t then (119::(gM (t - sn - 1).toNat).data.toList) else (118::(gM t.toNat).data.toList)):=by
 unfold rC DY
 split <;> (rw[ByteArray.data_append,Array.toList_append];rfl)
theorem rZ (sn:Int)(i:In):(nF sn i).data.toList=(fR i).data.toList++i.facts.flatMap fun q=>rC sn q.2.2:=by
 unfold nF
 have:∀ (l:List aw) (z:ByteArray),(l.foldl (fun t q=>t++DY sn q.2.2) z).data.toList=z.data.toList++l.flatMap fun q=>rC sn q.2.2:=by
  intro l
  induction l with
  |nil=>intro z;simp
  |cons q l ih=>
   intro z
   rw[List.foldl_cons,ih,ByteArray.data_append,Array.toList_append,List.flatMap_cons,List.append_assoc]
   rfl
 exact this _ _
theorem qZ (i:In):(fR i).data.toList=UInt8.ofNat (48+i.rule)::vV i.facts:=by
 unfold fR
 rw[ByteArray.data_append,Array.toList_append,jm]
 have:(strOfNums [48+(i.rule:Int)]).data.toList=[UInt8.ofNat (48+i.rule)]:=by
  show [UInt8.ofNat (48+(i.rule:Int)).toNat]=_
  congr 2
 rw[this]
 rfl
def CV (l:List aw):Prop:=∀ q∈l,q.1<60∧0≤q.2.1∧q.2.1≤9∧0≤q.2.2
theorem su {n:Nat}(h:n<256):(UInt8.ofNat n).toNat=n:=by rw[UInt8.toNat_ofNat'];omega
theorem Ah (c:Nat)(v:Int):(cz c v).data.toList=[UInt8.ofNat (97+(c:Int) / 10).toNat,UInt8.ofNat (48+(c:Int) % 10).toNat,UInt8.ofNat (48+v).toNat]:=rfl
theorem F4 {l:List aw}(h:CV l):∀ b∈vV l,b≠32:=by
 intro b hb e
 unfold vV at hb
 obtain⟨q,hq,hm⟩:=List.mem_flatMap.mp hb
 obtain⟨h1,h2,h3,_⟩:=h q hq
 rw[Ah] at hm
 simp only[List.mem_cons,List.not_mem_nil,or_false] at hm
 have hb':=congrArg UInt8.toNat e
 simp only[UInt8.reduceToNat] at hb'
 rcases hm with hm|hm|hm <;> (rw[hm,su (by omega)] at hb';omega)
theorem y9:∀ {l m:List aw} ,CV l→CV m→vV l=vV m→l.map (fun q=>(q.1,q.2.1))=m.map (fun q=>(q.1,q.2.1))
 |[],[],_,_,_=>rfl
 |[],q::m,_,_,h=>by
  have:=congrArg List.length h
  rw[ly,ly] at this
  simp at this
 |q::l,[],_,_,h=>by
  have:=congrArg List.length h
  rw[ly,ly] at this
  simp at this
 |q::l,p::m,hl,hm,h=>by
  have e:∀ (x:aw) (k:List aw),vV (x::k)=UInt8.ofNat (97+(x.1:Int) / 10).toNat::UInt8.ofNat (48+(x.1:Int) % 10).toNat::UInt8.ofNat (48+x.2.1).toNat::vV k:=fun _ _=>rfl
  rw[e,e] at h
  injection h with a1 h
  injection h with a2 h
  injection h with a3 h
  have ih:=y9 (fun x hx=>hl x (by simp[hx])) (fun x hx=>hm x (by simp[hx])) h
  obtain⟨b1,b2,b3,_⟩:=hl q (by simp)
  obtain⟨d1,d2,d3,_⟩:=hm p (by simp)
  have c1:=congrArg UInt8.toNat a1
  have c2:=congrArg UInt8.toNat a2
  have c3:=congrArg UInt8.toNat a3
  rw[su (by omega),su (by omega)] at c1 c2 c3
  rw[List.map_cons,List.map_cons,ih]
  congr 2
  ·omega
  ·omega
theorem yC:∀ {sn:Int}{l m:List aw} ,CV l→CV m→l.length=m.length→(l.flatMap fun q=>rC sn q.2.2)=(m.flatMap fun q=>rC sn q.2.2)→l.map (·.2.2)=m.map (·.2.2)
 |_,[],[],_,_,_,_=>rfl
 |_,[],q::m,_,_,h,_=>by cases h
 |_,q::l,[],_,_,h,_=>by cases h
 |sn,q::l,p::m,hl,hm,hn,h=>by
  rw[List.flatMap_cons,List.flatMap_cons,lx,lx,List.cons_append,List.cons_append] at h
  injection h with _ h
  have hb:∀ (k:List aw),(k.flatMap fun q=>rC sn q.2.2)=[]∨∃ r,(k.flatMap fun q=>rC sn q.2.2)=32::r:=fun k=>by
   cases k with
   |nil=>exact .inl rfl
   |cons x k=>
    rw[List.flatMap_cons,lx,List.cons_append]
    exact .inr ⟨_,rfl⟩
  have hno:∀ t:Int,∀ b∈(if sn<t then (119::(gM (t - sn - 1).toNat).data.toList) else (118::(gM t.toNat).data.toList)),b≠32:=fun t b hb=>by
   split at hb
   ·rcases List.mem_cons.mp hb with e|hb
    ·rw[e];decide
    ·exact (mW _).2 b hb
   ·rcases List.mem_cons.mp hb with e|hb
    ·rw[e];decide
    ·exact (mW _).2 b hb
  obtain⟨e1,e2⟩:=xn (hno _) (hno _) (hb l) (hb m) h
  have ih:=yC (fun x hx=>hl x (by simp[hx])) (fun x hx=>hm x (by simp[hx])) (by simpa using hn) e2
  have h1:=(hl q (by simp)).2.2.2
  have h2:=(hm p (by simp)).2.2.2
  have:q.2.2=p.2.2:=by
   split at e1
   ·split at e1
    ·injection e1 with _ e1
     have:=vn e1
     omega
    ·injection e1 with e1 _
     exact absurd e1 (by decide)
   ·split at e1
    ·injection e1 with e1 _
     exact absurd e1 (by decide)
    ·injection e1 with _ e1
     have:=vn e1
     omega
  rw[List.map_cons,List.map_cons,ih,this]
theorem Gb:∀ {l m:List aw} ,l.map (fun q=>(q.1,q.2.1))=m.map (fun q=>(q.1,q.2.1))→l.map (·.2.2)=m.map (·.2.2)→l=m
 |[],[],_,_=>rfl
 |[],q::m,h,_=>by cases h
 |q::l,[],h,_=>by cases h
 |q::l,p::m,h1,h2=>by
  rw[List.map_cons,List.map_cons] at h1 h2
  injection h1 with a1 b1
  injection h2 with a2 b2
  rw[Gb b1 b2]
  congr 1
  obtain⟨x,y,z⟩:=q
  obtain⟨x',y',z'⟩:=p
  simp only[Prod.mk.injEq] at a1 a2 ⊢
  exact⟨a1.1,a1.2,a2⟩
theorem CN {sn:Int}{i j:In}(hi:CV i.facts)(hj:CV j.facts)(ri:i.rule≤9)(rj:j.rule≤9)(h:nF sn i=nF sn j):i.rule=j.rule∧i.facts=j.facts:=by
 have h1:(nF sn i).data.toList=(nF sn j).data.toList:=by rw[h]
 rw[rZ,rZ,qZ,qZ] at h1
 have hb:∀ (k:List aw),(k.flatMap fun q=>rC sn q.2.2)=[]∨∃ r,(k.flatMap fun q=>rC sn q.2.2)=32::r:=fun k=>by
  cases k with
  |nil=>exact .inl rfl
  |cons x k=>
   rw[List.flatMap_cons,lx,List.cons_append]
   exact .inr ⟨_,rfl⟩
 have hno:∀ {x:In},CV x.facts→x.rule≤9→∀ b∈UInt8.ofNat (48+x.rule)::vV x.facts,b≠32:=fun {x} hx hr b hb=>by
  rcases List.mem_cons.mp hb with e|hb
  ·rw[e]
   intro e2
   have:=congrArg UInt8.toNat e2
   rw[su (by omega)] at this
   simp only[UInt8.reduceToNat] at this
   omega
  ·exact F4 hx b hb
 obtain⟨e1,e2⟩:=xn (hno hi ri) (hno hj rj) (hb _) (hb _) h1
 injection e1 with r1 r2
 have hr:=congrArg UInt8.toNat r1
 rw[su (by omega),su (by omega)] at hr
 have hm:=y9 hi hj r2
 have hl:i.facts.length=j.facts.length:=by
  have:=congrArg List.length hm
  simpa using this
 exact⟨by omega,Gb hm (yC hi hj hl e2)⟩
def A7 (s:ByteArray)(L:List Nat):List Int:=L.filterMap fun p=>if bt s p=33 then none else if aU (bt s p) then some (bt s p - 97) else none
theorem Br (s:ByteArray)(L:List Nat)(p:Nat):A7 s (L++[p])=A7 s L++(if bt s p=33 then [] else if aU (bt s p) then [bt s p - 97] else []):=by
 unfold A7
 rw[List.filterMap_append]
 congr 1
 simp only[List.filterMap_cons,List.filterMap_nil]
 by_cases h1:bt s p=33
 ·rw[if_pos h1,if_pos h1]
 ·rw[if_neg h1,if_neg h1]
  by_cases h2:aU (bt s p)=true
  ·rw[if_pos h2,if_pos h2]
  ·rw[if_neg h2,if_neg h2]
theorem pr {α:Type}{P:List α→Prop}(h0:P [])(h1:∀ l a,P l→P (l++[a]))(l:List α):P l:=by
 have:∀ m:List α,P m.reverse:=by
  intro m
  induction m with
  |nil=>exact h0
  |cons a m ih=>
   rw[List.reverse_cons]
   exact h1 _ _ ih
 have:=this l.reverse
 rwa [List.reverse_reverse] at this
def lJ (l:List aw):List Int:=l.map fun q=>(q.1:Int) / 10
theorem Ef {e e':fu}{c t1 t2:Int}{q:aw}(h:gd e c t1 t2 q=some e'):(q.1:Int) / 10=c - 97:=by
 unfold gd at h
 split at h
 ·rename_i hc;exact hc.symm
 ·cases h
theorem pT {z:Int}{s:ByteArray}{F:List aw}{r:Nat}:∀ (L:List Nat) (L0:List Nat) (l:List In),(∀ i∈l,i.rule=r∧lJ i.facts=A7 s L0)→∀ i∈L.foldl (kK z s F) l,i.rule=r∧lJ i.facts=A7 s (L0++L)
 |[],L0,l,h,i,hi=>by
  rw[List.append_nil]
  exact h i hi
 |p::L,L0,l,h,i,hi=>by
  rw[List.foldl_cons] at hi
  have e:L0++p::L=(L0++[p])++L:=by simp
  rw[e]
  refine pT L (L0++[p]) _ (fun j hj=>?_) i hi
  rw[Br]
  unfold kK at hj
  by_cases h33:bt s p=33
  ·rw[if_pos h33] at hj ⊢
   rw[List.append_nil]
   exact h j (List.mem_filter.mp hj).1
  ·rw[if_neg h33] at hj ⊢
   by_cases hc:aU (bt s p)=true
   ·rw[if_pos hc] at hj ⊢
    obtain⟨i0,hi0,hm⟩:=List.mem_flatMap.mp hj
    unfold iE at hm
    obtain⟨q,_,hq⟩:=List.mem_filterMap.mp hm
    obtain⟨e',he,rfl⟩:=Option.map_eq_some_iff.mp hq
    obtain⟨h1,h2⟩:=h i0 hi0
    refine⟨h1,?_⟩
    show lJ (i0.facts++[q])=_
    unfold lJ at h2 ⊢
    rw[List.map_append,h2]
    simp only[List.map_cons,List.map_nil]
    rw[Ef he]
   ·rw[if_neg hc] at hj ⊢
    rw[List.append_nil]
    exact h j (List.mem_filter.mp hj).1
def qU (s:ByteArray)(R:List ay)(i:In):Prop:=i.rule<R.length∧i.facts.length≤3∧lJ i.facts=A7 s (R.getD i.rule (0,[],[])).2.1
theorem yq {s:ByteArray}{F:List aw}{R:List ay}(hF:rt F)(hFl:F.length≤60)(hR:∀ r∈R,md s r){i:In}(h:i∈bz 0 s F R R.length):qU s R i:=by
 obtain⟨h1,h2,_⟩:=na hF hFl hR h
 unfold bz at h
 obtain⟨k,hk,hm⟩:=List.mem_flatMap.mp h
 unfold dz at hm
 obtain⟨e1,e2⟩:=pT (R.getD k (0,[],[])).2.1 [] [In.start k] (fun j hj=>by rw[List.mem_singleton] at hj;rw[hj];exact⟨rfl,rfl⟩) i hm
 refine⟨h1,h2,?_⟩
 have e3:i.rule=k:=e1
 rw[e3]
 simpa using e2
theorem Dx {l m:List aw}(hc:lJ l=lJ m)(hd:∀ k,k<l.length→D6 l k=D6 m k):l.map (·.1)=m.map (·.1):=by
 have hl:l.length=m.length:=by
  have:=congrArg List.length hc
  simpa [lJ] using this
 refine List.ext_getElem (by simpa using hl) (fun k h1 h2=>?_)
 have k1:k<l.length:=by simpa using h1
 have k2:k<m.length:=by simpa using h2
 have a:(lJ l)[k]'(by simpa [lJ] using k1)=(lJ m)[k]'(by simpa [lJ] using k2):=by simp only[hc]
 have b:=hd k k1
 unfold lJ at a
 unfold D6 vI at b
 simp only[List.getElem_map,List.getD_eq_getElem?_getD,List.getElem?_eq_getElem k1,List.getElem?_eq_getElem k2,Option.getD_some] at a b ⊢
 omega
theorem nN {s:ByteArray}{R:List ay}{i j:In}(hi:qU s R i)(hj:qU s R j)(h:bZ i=bZ j):i.rule=j.rule∧i.facts.map (·.1)=j.facts.map (·.1):=by
 have b1:=qo (l8 i.facts) i.facts.length hi.2.1
 have b2:=qo (l8 j.facts) j.facts.length hj.2.1
 unfold bZ kI at h
 have hr:i.rule=j.rule:=by omega
 have hp:rO (D6 i.facts) i.facts.length=rO (D6 j.facts) j.facts.length:=by omega
 have hc:lJ i.facts=lJ j.facts:=by rw[hi.2.2,hj.2.2,hr]
 have hl:i.facts.length=j.facts.length:=by
  have:=congrArg List.length hc
  simpa [lJ] using this
 refine⟨hr,Dx hc ?_⟩
 have h3:=hi.2.1
 rw[←hl] at hp
 have d1:=l8 i.facts
 have d2:=l8 j.facts
 generalize i.facts.length=n at hp h3
 intro k hk
 match n,h3 with
 |0,_=>omega
 |1,_=>
  simp only[rO] at hp
  have:k=0:=by omega
  subst this
  omega
 |2,_=>
  simp only[rO] at hp
  have a0:=d1 0;have a1:=d1 1;have c0:=d2 0;have c1:=d2 1
  have:k=0∨k=1:=by omega
  rcases this with e|e <;> subst e <;> omega
 |3,_=>
  simp only[rO] at hp
  have a0:=d1 0;have a1:=d1 1;have a2:=d1 2;have c0:=d2 0;have c1:=d2 1;have c2:=d2 2
  have:k=0∨k=1∨k=2:=by omega
  rcases this with e|e|e <;> subst e <;> omega
theorem Cy {l:List aw}:∀ {q:aw},q∈l→q.2.2≤ce l:=by
 suffices h:∀ (l:List aw) (m:Int),m≤l.foldl (fun m q=>if q.2.2>m then q.2.2 else m) m∧∀ q∈l,q.2.2≤l.foldl (fun m q=>if q.2.2>m then q.2.2 else m) m from fun {q} hq=>(h l 0).2 q hq
 intro l
 induction l with
 |nil=>intro m;exact⟨Int.le_refl m,fun q hq=>by cases hq⟩
 |cons p l ih=>
  intro m
  rw[List.foldl_cons]
  obtain⟨i1,i2⟩:=ih (if p.2.2>m then p.2.2 else m)
  have:m≤(if p.2.2>m then p.2.2 else m)∧p.2.2≤(if p.2.2>m then p.2.2 else m):=by split <;> omega
  refine⟨by omega,fun q hq=>?_⟩
  rcases List.mem_cons.mp hq with e|hq
  ·rw[e];omega
  ·exact i2 q hq
theorem Fl {l:List aw}{t:Int}(h0:0≤t)(h:∀ q∈l,q.2.2≤t):ce l≤t:=by
 suffices g:∀ (l:List aw) (m:Int),m≤t→(∀ q∈l,q.2.2≤t)→l.foldl (fun m q=>if q.2.2>m then q.2.2 else m) m≤t from g l 0 h0 h
 intro l
 induction l with
 |nil=>intro m hm _;exact hm
 |cons p l ih=>
  intro m hm hq
  rw[List.foldl_cons]
  refine ih _ ?_ (fun q h=>hq q (by simp[h]))
  have:=hq p (by simp)
  split <;> omega
def s6 (Rs:List In):Nat→Option Int:=Rs.foldl (fun m i=>cI m (bZ i) (some (ce i.facts))) (fun _=>none)
theorem ow (Rs:List In)(i:In):s6 (Rs++[i])=cI (s6 Rs) (bZ i) (some (ce i.facts)):=by simp[s6]
theorem so:∀ {Rs:List In}{p:Nat}{t:Int} ,s6 Rs p=some t→∃ A r B,Rs=A++r::B∧bZ r=p∧ce r.facts=t∧∀ x∈B,bZ x≠p:=by
 intro Rs
 induction Rs using pr with
 |h0=>intro p t h;cases h
 |h1 Rs i ih=>
  intro p t h
  rw[ow] at h
  by_cases e:p=bZ i
  ·rw[e,aW] at h
   exact⟨Rs,i,[],rfl,e.symm,by simpa using h,fun x hx=>by cases hx⟩
  ·rw[bD _ _ _ e] at h
   obtain⟨A,r,B,e1,e2,e3,e4⟩:=ih h
   refine⟨A,r,B++[i],by rw[e1];simp,e2,e3,fun x hx=>?_⟩
   rcases List.mem_append.mp hx with hx|hx
   ·exact e4 x hx
   ·rw[List.mem_singleton] at hx
    rw[hx]
    exact fun c=>e c.symm
theorem Az:∀ {Rs:List In}{p:Nat} ,s6 Rs p=none→∀ r∈Rs,bZ r≠p:=by
 intro Rs
 induction Rs using pr with
 |h0=>intro p _ r hr;cases hr
 |h1 Rs i ih=>
  intro p h r hr
  rw[ow] at h
  by_cases e:p=bZ i
  ·rw[e,aW] at h;cases h
  ·rw[bD _ _ _ e] at h
   rcases List.mem_append.mp hr with hr|hr
   ·exact ih h r hr
   ·rw[List.mem_singleton] at hr
    rw[hr]
    exact fun c=>e c.symm
structure mE (P:aK)(f:Nat→Int×Option Int):Prop where
 snap:0≤P.snap
 made:0≤P.made
 wr:∀ c v,P.wr c=some v→P.snap<P.tm c∧P.tm c≤P.snap+P.made
 his:∀ c v,(f c).2=some v→0<(f c).1∧(f c).1≤P.snap
structure i8 (s:ByteArray)(R:List ay)(P:aK)(f:Nat→Int×Option Int)(Rs:List In):Prop where
 shape:∀ r∈Rs,qU s R r
 facts:∀ r∈Rs,CV r.facts
 now:∀ r∈Rs,∀ q∈r.facts,cM P f q.1=some q.2∨(∃ v,P.wr q.1=some v)∧ce r.facts<P.tm q.1
 clock:∀ r∈Rs,ce r.facts≤P.snap+P.made
 mono:Rs.Pairwise fun r r'=>bZ r=bZ r'→ce r.facts≤ce r'.facts
theorem yw {P:aK}{f:Nat→Int×Option Int}{q:aw}(h:q∈dj P f 60):q.1<60∧cM P f q.1=some q.2:=by
 unfold dj at h
 obtain⟨c,hc,hm⟩:=List.mem_filterMap.mp h
 cases hs:cM P f c with
 |none=>rw[hs] at hm;cases hm
 |some p=>
  rw[hs] at hm
  simp only[Option.map_some,Option.some.injEq] at hm
  rw[←hm]
  exact⟨by simpa using hc,hs⟩
theorem nU {P:aK}{f:Nat→Int×Option Int}(ht:mE P f){c:Nat}{p:Int×Int}(h:cM P f c=some p):0<p.2∧p.2≤P.snap+P.made∧∀ v,P.wr c=some v→p.2=P.tm c:=by
 have h1:=ht.snap
 have h2:=ht.made
 unfold cM at h
 cases hw:P.wr c with
 |none=>
  rw[hw] at h
  simp only at h
  cases hf:(f c).2 with
  |none=>rw[hf] at h;cases h
  |some v=>
   rw[hf] at h
   simp only[Option.map_some,Option.some.injEq] at h
   have:=ht.his c v hf
   rw[←h]
   exact⟨this.1,by simp only;omega,fun v hv=>by cases hv⟩
 |some u=>
  rw[hw] at h
  simp only at h
  cases u with
  |none=>cases h
  |some v=>
   simp only[Option.map_some,Option.some.injEq] at h
   have:=ht.wr c _ hw
   rw[←h]
   exact⟨by simp only;omega,by simp only;omega,fun _ _=>rfl⟩
theorem p7 {l m:List aw}(h:l.map (·.1)=m.map (·.1)){k:Nat}(hk:k<l.length):∃ h2:k<m.length,l[k].1=m[k].1:=by
 have hl:l.length=m.length:=by
  have:=congrArg List.length h
  simpa using this
 refine⟨by omega,?_⟩
 have a:(l.map (·.1))[k]'(by simpa using hk)=(m.map (·.1))[k]'(by simpa using (by omega:k<m.length)):=by simp only[h]
 simpa using a
theorem pK {s:ByteArray}{R:List ay}{P:aK}{f:Nat→Int×Option Int}{Rs:List In}(h:i8 s R P f Rs)(ht:mE P f){r i:In}(hr:r∈Rs)(hi:∀ q∈i.facts,cM P f q.1=some q.2)(hc:r.facts.map (·.1)=i.facts.map (·.1)):r.facts=i.facts∨ce r.facts<ce i.facts:=by
 by_cases hall:∀ q∈r.facts,cM P f q.1=some q.2
 ·left
  have hl:r.facts.length=i.facts.length:=by
   have:=congrArg List.length hc
   simpa using this
  refine List.ext_getElem hl (fun k h1 h2=>?_)
  obtain⟨_,e⟩:=p7 hc h1
  have a:=hall _ (List.getElem_mem h1)
  have b:=hi _ (List.getElem_mem h2)
  rw[e,b] at a
  simp only[Option.some.injEq] at a
  exact Prod.ext e a.symm
 ·right
  simp only[Classical.not_forall] at hall
  obtain⟨q,hq,hn⟩:=hall
  rcases h.now r hr q hq with e|⟨⟨v,hv⟩,e⟩
  ·exact absurd e hn
  ·obtain⟨k,hk,e1⟩:=List.getElem_of_mem hq
   obtain⟨k2,e2⟩:=p7 hc hk
   have b:=hi _ (List.getElem_mem k2)
   rw[e1] at e2
   rw[←e2] at b
   have:=(nU ht b).2.2 v hv
   have:=Cy (List.getElem_mem k2)
   omega
theorem E5 {s:ByteArray}{R:List ay}{P:aK}{f:Nat→Int×Option Int}{Rs:List In}(h:i8 s R P f Rs)(ht:mE P f){i:In}(hi:qU s R i)(hn:∀ q∈i.facts,cM P f q.1=some q.2):wC (s6 Rs) i=true↔∃ r∈Rs,r.rule=i.rule∧r.facts=i.facts:=by
 unfold wC
 constructor
 ·intro hm
  simp only[Bool.and_eq_true,beq_iff_eq] at hm
  obtain⟨m1,m2⟩:=hm
  cases hk:s6 Rs (bZ i) with
  |none=>rw[hk] at m1;cases m1
  |some t=>
   rw[hk] at m2
   simp only[Option.getD_some] at m2
   obtain⟨A,r,B,e1,e2,e3,_⟩:=so hk
   have hr:r∈Rs:=by rw[e1];simp
   obtain⟨p1,p2⟩:=nN (h.shape r hr) hi e2
   rcases pK h ht hr hn p2 with e|e
   ·exact⟨r,hr,p1,e⟩
   ·omega
 ·rintro⟨r,hr,h1,h2⟩
  have hp:bZ r=bZ i:=by unfold bZ kI;rw[h1,h2]
  cases hk:s6 Rs (bZ i) with
  |none=>exact absurd hp (Az hk r hr)
  |some t=>
   obtain⟨A,r',B,e1,e2,e3,e4⟩:=so hk
   have hr':r'∈Rs:=by rw[e1];simp
   obtain⟨p1,p2⟩:=nN (h.shape r' hr') hi e2
   simp only[Option.isSome_some,Option.getD_some,Bool.true_and,beq_iff_eq]
   rcases pK h ht hr' hn p2 with e|e
   ·rw[←e3,e]
   ·exfalso
    have hm:=h.mono
    rw[e1,List.pairwise_append] at hm
    rw[e1] at hr
    rcases List.mem_append.mp hr with hr|hr
    ·have:=hm.2.2 r hr r' (by simp) (by rw[hp,e2])
     rw[h2] at this
     omega
    ·rcases List.mem_cons.mp hr with hr|hr
     ·rw[hr] at h2
      rw[h2] at e
      omega
     ·exact e4 r hr hp
theorem mE.put {P:aK}{f:Nat→Int×Option Int}(h:mE P f)(c:Nat)(v:Option Int):mE (P.put c v) f:=by
 have h1:=h.made
 refine⟨h.snap,by show 0≤P.made+1;omega,fun d u hu=>?_,h.his⟩
 show P.snap<cI P.tm c (P.snap+(P.made+1)) d∧cI P.tm c (P.snap+(P.made+1)) d≤P.snap+(P.made+1)
 by_cases e:d=c
 ·rw[e,aW]
  omega
 ·have hu':P.wr d=some u:=by
   have:cI P.wr c (some v) d=some u:=hu
   rw[bD _ _ _ e] at this
   exact this
  rw[bD _ _ _ e]
  have:=h.wr d u hu'
  omega
theorem i8.put {s:ByteArray}{R:List ay}{P:aK}{f:Nat→Int×Option Int}{Rs:List In}(h:i8 s R P f Rs)(c:Nat)(v:Option Int):i8 s R (P.put c v) f Rs:=by
 refine⟨h.shape,h.facts,fun r hr q hq=>?_,fun r hr=>?_,h.mono⟩
 ·by_cases e:q.1=c
  ·right
   refine⟨⟨v,?_⟩,?_⟩
   ·show cI P.wr c (some v) q.1=some v
    rw[e,aW]
   ·show _<cI P.tm c (P.snap+(P.made+1)) q.1
    rw[e,aW]
    have:=h.clock r hr
    omega
  ·have e1:cM (P.put c v) f q.1=cM P f q.1:=by
    unfold cM
    have a1:(P.put c v).wr q.1=P.wr q.1:=bD _ _ _ e
    have a2:(P.put c v).tm q.1=P.tm q.1:=bD _ _ _ e
    rw[a1,a2]
   rw[e1]
   rcases h.now r hr q hq with k|⟨⟨u,k⟩,k2⟩
   ·exact .inl k
   ·refine .inr ⟨⟨u,?_⟩,?_⟩
    ·show cI P.wr c (some v) q.1=some u
     rw[bD _ _ _ e]
     exact k
    ·show _<cI P.tm c (P.snap+(P.made+1)) q.1
     rw[bD _ _ _ e]
     exact k2
 ·have:=h.clock r hr
  show ce r.facts≤P.snap+(P.made+1)
  omega
theorem mE.puts {f:Nat→Int×Option Int}:∀ (ws:List (Nat×Option Int)) {P:aK},mE P f→mE (puts P ws) f
 |[],_,h=>h
 |q::ws,_,h=>mE.puts ws (h.put q.1 q.2)
theorem i8.puts {s:ByteArray}{R:List ay}{f:Nat→Int×Option Int}{Rs:List In}:∀ (ws:List (Nat×Option Int)) {P:aK},i8 s R P f Rs→i8 s R (puts P ws) f Rs
 |[],_,h=>h
 |q::ws,_,h=>i8.puts ws (h.put q.1 q.2)
theorem i8.fire {s:ByteArray}{R:List ay}{P:aK}{f:Nat→Int×Option Int}{Rs:List In}(h:i8 s R P f Rs)(ht:mE P f){i:In}(hi:qU s R i)(hF:CV i.facts)(hn:∀ q∈i.facts,cM P f q.1=some q.2):i8 s R P f (Rs++[i]):=by
 have hm:∀ r,r∈Rs++[i]→r∈Rs∨r=i:=fun r hr=>by
  rcases List.mem_append.mp hr with hr|hr
  ·exact .inl hr
  ·exact .inr (by simpa using hr)
 refine⟨fun r hr=>?_,fun r hr=>?_,fun r hr q hq=>?_,fun r hr=>?_,?_⟩
 ·rcases hm r hr with k|k
  ·exact h.shape r k
  ·rw[k];exact hi
 ·rcases hm r hr with k|k
  ·exact h.facts r k
  ·rw[k];exact hF
 ·rcases hm r hr with k|k
  ·exact h.now r k q hq
  ·rw[k] at hq
   exact .inl (hn q hq)
 ·rcases hm r hr with k|k
  ·exact h.clock r k
  ·rw[k]
   have a1:=ht.snap
   have a2:=ht.made
   exact Fl (by omega) (fun q hq=>(nU ht (hn q hq)).2.1)
 ·rw[List.pairwise_append]
  refine⟨h.mono,List.pairwise_singleton _ _,fun r hr r' hr' hp=>?_⟩
  rw[List.mem_singleton] at hr'
  subst hr'
  obtain⟨_,p2⟩:=nN (h.shape r hr) hi hp
  rcases pK h ht hr hn p2 with e|e
  ·rw[e];exact Int.le_refl _
  ·omega
def ik (Φ:World→Prop):eM:=fun w f=>(∀ b∈f,b<w.heap.size)∧∀ w':World,(∀ b∈f,w'.heap[b]?=w.heap[b]?)→Φ w'
theorem ik.framed (Φ:World→Prop):bV (ik Φ):=by
 rintro S w w' f ⟨h1,h2⟩ hf hs
 refine⟨fun b hb=>Nat.lt_of_lt_of_le (h1 b hb) hf.size,fun w2 h=>h2 w2 (fun b hb=>(h b hb).trans (hf.block b (h1 b hb) (hs b hb)))⟩
theorem ik.within (Φ:World→Prop):bW (ik Φ):=fun h g hg=>h.1 g hg
theorem ik.now {Φ:World→Prop}{w:World}{f:List Nat}(h:ik Φ w f):Φ w:=h.2 w (fun _ _=>rfl)
def E8 (r:Ff):eM:=ik fun w=>bS w 0 r.2.1 r.1.1 r.2.2
def ms (X:ap):List Nat:=(List.range 8).filterMap fun k=>(X.ses k).mks
theorem gJ {X:ap}{g:Nat}:g∈ms X↔∃ k,k<8∧(X.ses k).mks=some g:=by
 unfold ms
 rw[List.mem_filterMap]
 constructor
 ·rintro⟨k,hk,h⟩
  exact⟨k,by simpa using hk,h⟩
 ·rintro⟨k,hk,h⟩
  exact⟨k,by simpa using hk,h⟩
theorem jS.fr {m:Option Nat}{fm:Nat→Option Int}{S:List Nat}{w w':World}(h:jS m fm w)(hf:Fr S w w')(hs:∀ g,m=some g→g∉S):jS m fm w':=by
 cases m with
 |none=>exact h
 |some g=>
  obtain⟨Z,h1,h2⟩:=h
  exact⟨Z,(hf.block g (lt_of_block h1) (hs g rfl)).trans h1,h2⟩
theorem jS.lt {g:Nat}{fm:Nat→Option Int}{w:World}(h:jS (some g) fm w):g<w.heap.size:=by
 obtain⟨Z,h1,_⟩:=h
 exact lt_of_block h1
def lZ (X:ap)(F:dN):eM:=fun w f=>(∀ k,k<8→jS (X.ses k).mks (F k) w)∧f=ms X
theorem lZ.framed (X:ap)(F:dN):bV (lZ X F):=by
 rintro S w w' f ⟨h1,rfl⟩ hf hs
 exact⟨fun k hk=>(h1 k hk).fr hf (fun g hg=>hs g (gJ.mpr ⟨k,hk,hg⟩)),rfl⟩
theorem lZ.within (X:ap)(F:dN):bW (lZ X F):=by
 rintro w f ⟨h1,rfl⟩ g hg
 obtain⟨k,hk,e⟩:=gJ.mp hg
 have:=h1 k hk
 rw[e] at this
 exact this.lt
def j7 (x:Nat)(X:ap)(F:dN):eM:=b6 (aV x X) (b6 (lZ X F) (E8 X.src))
theorem j7.framed (x:Nat)(X:ap)(F:dN):bV (j7 x X F):=b6.framed (aV.framed _ _) (b6.framed (lZ.framed _ _) (ik.framed _))
theorem j7.within (x:Nat)(X:ap)(F:dN):bW (j7 x X F):=b6.within (aV.within _ _) (b6.within (lZ.within _ _) (ik.within _))
def a9 (x:Nat)(X:ap)(F:dN):eM:=fun w f=>∃ X0,j7 x X0 F w f∧X0.plain=X
theorem a9.framed (x:Nat)(X:ap)(F:dN):bV (a9 x X F):=by
 rintro S w w' f ⟨X0,h,e⟩ hf hs
 exact⟨X0,j7.framed _ _ _ h hf hs,e⟩
theorem a9.within (x:Nat)(X:ap)(F:dN):bW (a9 x X F):=by
 rintro w f ⟨X0,h,e⟩
 exact j7.within _ _ _ h
theorem lN {α β:Type}{f g:α→Option β}:∀ {l:List α},(∀ a∈l,g a=f a∨g a=none)→(l.filterMap g).Sublist (l.filterMap f)
 |[],_=>List.Sublist.refl _
 |a::l,h=>by
  have ih:=lN (f:=f) (g:=g) (l:=l) (fun b hb=>h b (by simp[hb]))
  rcases h a (by simp) with e|e
  ·rw[List.filterMap_cons,List.filterMap_cons,e]
   cases f a with
   |none=>exact ih
   |some b=>exact ih.cons_cons b
  ·rw[List.filterMap_cons,List.filterMap_cons,e]
   cases f a with
   |none=>exact ih
   |some b=>exact ih.cons b
theorem j7.open {x:Nat}{X:ap}{F:dN}{w:World}{f:List Nat}(h:j7 x X F w f)(hn:f.Nodup):
  ∃ f0,aV x X w f0∧f0.Nodup∧(∀ y∈f0,y∈f)∧∀ X' w',jM X X'→X'.src=X.src→bP (aV x X') f0 w w'→bP (j7 x X' (cy X X' F)) f w w':=by
 have hwi:=j7.within _ _ _ h
 obtain⟨f0,f1,h0,⟨f2,f3,⟨h2,rfl⟩,h3,rfl⟩,rfl⟩:=h
 rw[List.nodup_append] at hn
 obtain⟨n0,n1,d01⟩:=hn
 rw[List.nodup_append] at n1
 obtain⟨n2,n3,d23⟩:=n1
 refine⟨f0,h0,n0,fun y hy=>List.mem_append_left _ hy,fun X' w' hm hs ht=>?_⟩
 obtain⟨f0',a0,n0',s0,r0⟩:=ht
 have hsub:(ms X').Sublist (ms X):=lN (fun k hk=>by
  have hk8:k<8:=by simpa using hk
  by_cases e:(X'.ses k).num=(X.ses k).num
  ·exact .inl ((hm k hk8).1 e)
  ·exact .inr ((hm k hk8).2 e))
 have hin:∀ y∈ms X'++f3,y∈ms X++f3:=fun y hy=>by
  rcases List.mem_append.mp hy with hy|hy
  ·exact List.mem_append_left _ (hsub.subset hy)
  ·exact List.mem_append_right _ hy
 refine⟨f0'++(ms X'++f3),⟨f0',_,a0,⟨_,f3,⟨fun k hk=>?_,rfl⟩,?_,rfl⟩,rfl⟩,?_,?_,?_⟩
 ·unfold cy
  by_cases e:(X'.ses k).num=(X.ses k).num
  ·rw[if_pos e,(hm k hk).1 e]
   exact (h2 k hk).fr r0 (fun g hg hf=>d01 g hf g (List.mem_append_left _ (gJ.mpr ⟨k,hk,hg⟩)) rfl)
  ·rw[if_neg e,(hm k hk).2 e]
   intro p _
   rfl
 ·rw[hs]
  exact ik.framed _ h3 r0 (fun g hg hf=>d01 g hf g (List.mem_append_right _ hg) rfl)
 ·rw[List.nodup_append]
  refine⟨n0',?_,?_⟩
  ·rw[List.nodup_append]
   exact⟨n2.sublist hsub,n3,fun a ha b hb=>d23 a (hsub.subset ha) b hb⟩
  ·intro a ha b hb e
   subst e
   have hb':=hin a hb
   rcases s0 a ha with h|h
   ·exact d01 a h a hb' rfl
   ·have:=hwi a (List.mem_append_right _ hb')
    omega
 ·intro y hy
  rcases List.mem_append.mp hy with hy|hy
  ·rcases s0 y hy with h|h
   ·exact .inl (List.mem_append_left _ h)
   ·exact .inr h
  ·exact .inl (List.mem_append_right _ (hin y hy))
 ·exact r0.mono (fun y hy=>.inl (List.mem_append_left _ hy))
theorem a9.call {x:Nat}{X X':ap}{F:dN}{w:World}{f:List Nat}{fn:Nat}{args:Array Value}{v:Value}(Y:ap→ap)(h:a9 x X F w f)(hn:f.Nodup)
  (hY:∀ X0,X0.plain=X→(Y X0).plain=X'∧(Y X0).src=X0.src∧jM X0 (Y X0))
  (c:∀ X0 f0,X0.plain=X→aV x X0 w f0→f0.Nodup→Calls Tryz.prog fn args w fun e w'=>e=.returned v∧bP (aV x (Y X0)) f0 w w') :
  Calls Tryz.prog fn args w fun e w'=>e=.returned v∧bP (a9 x X' (cy X X' F)) f w w':=by
 obtain⟨X0,h0,e0⟩:=h
 obtain⟨p1,p2,p3⟩:=hY X0 e0
 obtain⟨f0,a0,nf0,_,hcl⟩:=h0.open hn
 refine (c X0 f0 e0 a0 nf0).mono ?_
 rintro e w' ⟨rfl,ht⟩
 refine⟨rfl,?_⟩
 obtain⟨f',a,n,s,r⟩:=hcl _ _ p3 p2 ht
 subst e0
 subst p1
 exact⟨f',⟨_,a,rfl⟩,n,s,r⟩
theorem a9.see {x:Nat}{X:ap}{F:dN}{w:World}{f:List Nat}{fn:Nat}{args:Array Value}{v:Value}(h:a9 x X F w f)(hn:f.Nodup)
  (c:∀ X0 f0,X0.plain=X→j7 x X0 F w f→aV x X0 w f0→Calls Tryz.prog fn args w fun e w'=>e=.returned v∧Fr [] w w') :
  Calls Tryz.prog fn args w fun e w'=>e=.returned v∧bP (a9 x X F) f w w':=by
 obtain⟨X0,h0,e0⟩:=h
 obtain⟨f0,a0,_,_,_⟩:=h0.open hn
 refine (c X0 f0 e0 h0 a0).mono ?_
 rintro e w' ⟨rfl,r⟩
 exact⟨rfl,f,a9.framed _ _ _ ⟨X0,h0,e0⟩ r (by simp),hn,fun _ hy=>.inl hy,r.mono (fun k hk=>by cases hk)⟩
end Go.Proofs.YthlhbjnkohinmabGreat
