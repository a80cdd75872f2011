import Derived.Test.YthlhbjnkohinmaaGreatP32
import Derived.Test.YthlhbjnkohinmaaGreatP18
import Derived.Test.YthlhbjnkohinmaaGreatP14
import Derived.Test.YthlhbjnkohinmaaGreatP15
import Derived.Test.YthlhbjnkohinmaaGreatP19
import Derived.Test.YthlhbjnkohinmaaGreatP31
namespace Go.Proofs.YthlhbjnkohinmaaGreat
set_option maxRecDepth 100000
set_option maxHeartbeats 8000000
open Go.RowKit
theorem Fu {s:ByteArray} {a b:Nat} (h:bc (bt s a)=true) (hb:b=c9 s a):id (bt (s.extract a b) 1)=id (bt s (a+1)):=by
 have hle:b≤s.size:=by rw[hb];exact j7 h
 cases ht:e9 (bt s (a+1)) with
 |true=>
  have:b=a+2:=by rw[hb];unfold c9;rw[ht];rfl
  rw[iY hle (by omega)]
 |false=>
  have hb1:b=a+1:=by rw[hb];unfold c9;rw[ht];rfl
  have h1:bt (s.extract a b) 1=0:=nX (by rw[da hle];omega)
  rw[h1]
  simp only[e9,Bool.or_eq_false_iff,beq_eq_false_iff_ne] at ht
  unfold id
  rw[if_neg ht.1,if_neg ht.2]
  rfl
def lp (z:Int) (s:ByteArray) (e:ff) (a:Nat):Int:=fE z e (bt s a)+id (bt s (a+1))
def ke (z:Int) (s:ByteArray) (e:ff) (p:Nat):Option (Nat×Option Int):=
 if bt s p=43 then
  (if (0≤lp z s e (p+2)∧lp z s e (p+2)<10)∧0≤lp z s e (c9 s (p+2))∧lp z s e (c9 s (p+2))<10
   then some (((bt s (p+1) - 97)*10+lp z s e (p+2)).toNat,some (lp z s e (c9 s (p+2)))) else none)
 else (if 0≤lp z s e (p+2)∧lp z s e (p+2)<10 then some (((bt s (p+1) - 97)*10+lp z s e (p+2)).toNat,none) else none)
theorem xt (s:ByteArray) (e:ff) (a:Nat) (he:∀ n v,e n=some v→0≤v∧v≤9):-2≤lp (-1) s e a∧lp (-1) s e a≤10:=by
 have h:=xB e (bt s a) he
 unfold lp id
 split
 ·omega
 ·split <;> omega
theorem nN (e:ff) (s:ByteArray) (a b:Nat) (hul:s.size≤400) (h0:bc (bt s a)=true) (hb:b=c9 s a) (he:∀ n v,e n=some v→0≤v∧v≤9) (w:World) :
  Calls Tryz.prog 121 #[fF e,.string (s.extract a b)] w fun r w'=>r=.returned (.int .i64 (lp (-1) s e a))∧w.grownBy w' none:=by
 have hle:b≤s.size:=by rw[hb];exact j7 h0
 have hgt:a<b:=by rw[hb];exact es s a
 have e0:bt (s.extract a b) 0=bt s a:=by rw[iY hle (by omega)];rfl
 have h:=xL e (s.extract a b) w (by rw[da hle];omega) (by rw[da hle];omega) (by rw[e0];exact h0) he
 rw[e0,Fu h0 hb] at h
 exact h
def F8 (s:ByteArray) (e:ff) (p:Nat):Value:=
 if bt s p=46 then .tuple #[.agg #[.string ByteArray.empty,.int .i64 0],.bool true,.bool true]
 else match ke (-1) s e p with
  |some x=>.tuple #[.agg #[.string (aw x.1),.int .i64 (x.2.getD (-1))],.bool true,.bool false]
  |none=>.tuple #[.agg #[.string ByteArray.empty,.int .i64 0],.bool false,.bool false]
theorem yw {c d:Int} (hc:97≤c∧c≤102) (hd:0≤d∧d<10):strOfNums [c,48+d]=aw ((c - 97)*10+d).toNat:=by
 unfold aw
 rw[show (97:Int)+((((c - 97)*10+d).toNat:Nat):Int) / 10=c by omega,show (48:Int)+((((c - 97)*10+d).toNat:Nat):Int) % 10=48+d by omega]
theorem BV (e:ff) (s:ByteArray) (p:Nat) (w:World) (hul:s.size≤400) (hok:cP s p=true) (he:∀ n v,e n=some v→0≤v∧v≤9) :
  Calls Tryz.prog 98 #[fF e,.string (s.extract p (p+aT s p))] w fun r w'=>r=.returned (F8 s e p)∧w.grownBy w' none:=by
 unfold cP at hok
 unfold aT F8
 by_cases h43:bt s p=43
 ·rw[if_pos h43] at hok ⊢
  rw[if_neg (by rw[h43];decide)]
  unfold fI at hok
  simp only[Bool.and_eq_true] at hok
  obtain⟨⟨hc,hs1⟩,hs2⟩:=hok
  have hcl:97≤bt s (p+1)∧bt s (p+1)≤102:=by simpa [aQ] using hc
  obtain⟨k,hk⟩:∃ k,k=c9 s (p+2):=⟨_,rfl⟩
  obtain⟨q,hq⟩:∃ q,q=c9 s k:=⟨_,rfl⟩
  have hs2':bc (bt s k)=true:=by rw[hk];exact hs2
  have hql:q≤s.size:=by rw[hq];exact j7 hs2'
  have hkq:k<q:=by rw[hq];exact es s k
  have hpk:p+2<k:=by rw[hk];exact es s (p+2)
  have hlen:p+(1+cO s (p+1))=q:=by
   unfold cO
   rw[hc,hs1,show c9 s (p+1+1)=k from hk.symm,hs2',←hq]
   simp only[if_true]
   omega
  rw[hlen]
  have uz:(s.extract p q).size=q - p:=da hql
  have d1:=xt s e (p+2) he
  have d2:=xt s e k he
  have x2:(s.extract p q).extract 2 (k - p)=s.extract (p+2) k:=by rw[qL hql (by omega),show p+(k - p)=k by omega]
  have x3:(s.extract p q).extract (k - p) (s.extract p q).size=s.extract k q:=by rw[uz,qL hql (by omega),show p+(k - p)=k by omega,show p+(q - p)=q by omega]
  have c0:bt (s.extract p q) 0=43:=by rw[iY hql (by omega)];exact h43
  have c1:bt (s.extract p q) 1=bt s (p+1):=iY hql (by omega)
  have c3:bt (s.extract p q) 3=bt s (p+3):=iY hql (by omega)
  have HW1:Hid (∀ W,Calls Tryz.prog 121 #[fF e,.string ((s.extract p q).extract 2 (k - p))] W fun r w'=>r=.returned (.int .i64 (lp (-1) s e (p+2)))∧W.grownBy w' none):=af (fun W=>by rw[x2];exact nN e s (p+2) k hul hs1 hk he W)
  have HW2:Hid (∀ W,Calls Tryz.prog 121 #[fF e,.string ((s.extract p q).extract (k - p) (s.extract p q).size)] W fun r w'=>r=.returned (.int .i64 (lp (-1) s e k))∧W.grownBy w' none):=af (fun W=>by rw[x3];exact nN e s k q hul hs2' hq he W)
  have key:lN (s.extract p q) (lp (-1) s e (p+2)) (lp (-1) s e k) (decide (0≤lp (-1) s e (p+2))&&decide (lp (-1) s e (p+2)<10)&&decide (0≤lp (-1) s e k)&&decide (lp (-1) s e k<10))=(match ke (-1) s e p with
   |some x=>.tuple #[.agg #[.string (aw x.1),.int .i64 (x.2.getD (-1))],.bool true,.bool false]
   |none=>.tuple #[.agg #[.string ByteArray.empty,.int .i64 0],.bool false,.bool false]):=by
   unfold ke lN
   rw[if_pos h43,←hk,c1]
   by_cases ho:(0≤lp (-1) s e (p+2)∧lp (-1) s e (p+2)<10)∧0≤lp (-1) s e k∧lp (-1) s e k<10
   ·rw[if_pos ho,if_pos (by simp only[Bool.and_eq_true,decide_eq_true_eq];omega),yw hcl ho.1]
    rfl
   ·rw[if_neg ho,if_neg (by simp only[Bool.and_eq_true,decide_eq_true_eq];omega)]
  rw[←key]
  cases ht:e9 (bt s (p+3)) with
  |true=>
   have hk4:k - p=4:=by rw[hk];unfold c9;rw[show p+2+1=p+3 from rfl,ht];simp only[if_true];omega
   rw[hk4] at HW1 HW2
   exact zU _ _ _ _ _ _ (s.extract p q) w (by omega) (by omega) c0 (by omega) (by rw[c3];exact ht) d1.1 d1.2 d2.1 d2.2 HW1 HW2
  |false=>
   have hk3:k - p=3:=by rw[hk];unfold c9;rw[show p+2+1=p+3 from rfl,ht];simp only[Bool.false_eq_true,if_false];omega
   rw[hk3] at HW1 HW2
   exact zT _ _ _ _ _ _ (s.extract p q) w (by omega) (by omega) c0 (by omega) (by rw[c3];exact ht) d1.1 d1.2 d2.1 d2.2 HW1 HW2
 ·rw[if_neg h43] at hok ⊢
  by_cases h45:bt s p=45
  ·rw[if_pos h45] at hok ⊢
   rw[if_neg (by rw[h45];decide)]
   unfold gk at hok
   simp only[Bool.and_eq_true] at hok
   obtain⟨hc,hs1⟩:=hok
   have hcl:97≤bt s (p+1)∧bt s (p+1)≤102:=by simpa [aQ] using hc
   obtain⟨k,hk⟩:∃ k,k=c9 s (p+2):=⟨_,rfl⟩
   have hkl:k≤s.size:=by rw[hk];exact j7 hs1
   have hpk:p+2<k:=by rw[hk];exact es s (p+2)
   have hlen:p+(1+c7 s (p+1))=k:=by
    unfold c7
    rw[hc,hs1,show c9 s (p+1+1)=k from hk.symm]
    simp only[if_true]
    omega
   rw[hlen]
   have uz:(s.extract p k).size=k - p:=da hkl
   have d1:=xt s e (p+2) he
   have x2:(s.extract p k).extract 2 (k - p)=s.extract (p+2) k:=by rw[qL hkl (by omega),show p+(k - p)=k by omega]
   have c0:bt (s.extract p k) 0=45:=by rw[iY hkl (by omega)];exact h45
   have c1:bt (s.extract p k) 1=bt s (p+1):=iY hkl (by omega)
   have HW1:Hid (∀ W,Calls Tryz.prog 121 #[fF e,.string ((s.extract p k).extract 2 (k - p))] W fun r w'=>r=.returned (.int .i64 (lp (-1) s e (p+2)))∧W.grownBy w' none):=af (fun W=>by rw[x2];exact nN e s (p+2) k hul hs1 hk he W)
   have key:lN (s.extract p k) (lp (-1) s e (p+2)) (-1) (decide (0≤lp (-1) s e (p+2))&&decide (lp (-1) s e (p+2)<10))=(match ke (-1) s e p with
    |some x=>.tuple #[.agg #[.string (aw x.1),.int .i64 (x.2.getD (-1))],.bool true,.bool false]
    |none=>.tuple #[.agg #[.string ByteArray.empty,.int .i64 0],.bool false,.bool false]):=by
    unfold ke lN
    rw[if_neg h43,c1]
    by_cases ho:0≤lp (-1) s e (p+2)∧lp (-1) s e (p+2)<10
    ·rw[if_pos ho,if_pos (by simp only[Bool.and_eq_true,decide_eq_true_eq];omega),yw hcl ho]
     rfl
    ·rw[if_neg ho,if_neg (by simp only[Bool.and_eq_true,decide_eq_true_eq];omega)]
   rw[←key]
   cases ht:e9 (bt s (p+3)) with
   |true=>
    have hk4:k - p=4:=by rw[hk];unfold c9;rw[show p+2+1=p+3 from rfl,ht];simp only[if_true];omega
    rw[hk4] at HW1
    exact Bf _ _ _ _ _ (s.extract p k) w (by omega) (by omega) c0 (by omega) (by rw[iY hkl (by omega)];exact ht) d1.1 d1.2 HW1
   |false=>
    have hk3:k - p=3:=by rw[hk];unfold c9;rw[show p+2+1=p+3 from rfl,ht];simp only[Bool.false_eq_true,if_false];omega
    rw[hk3] at HW1
    exact zg _ _ _ _ _ (s.extract p k) w (by omega) (by omega) c0 (by omega) d1.1 d1.2 HW1
  ·rw[if_neg h45] at hok ⊢
   have h46:bt s p=46:=by simpa using hok
   rw[if_pos h46,if_pos h46]
   have hlt:p<s.size:=dd (by rw[h46];decide)
   have hex:s.extract p (p+1)=⟨#[46]⟩:=by
    apply ByteArray.ext
    apply Array.ext
    ·have:(s.extract p (p+1)).data.size=(s.extract p (p+1)).size:=rfl
     rw[this,da (by omega)]
     simp
    ·intro i h1 h2
     have hi:i=0:=by simp at h2;omega
     subst hi
     have hb:=iY (s:=s) (a:=p) (b:=p+1) (k:=0) (by omega) (by omega)
     rw[bg (by rw[da (by omega)];omega),show p+0=p from rfl,h46] at hb
     apply UInt8.toNat_inj.mp
     have h3:((s.extract p (p+1))[0]'(by rw[da (by omega)];omega)).toNat=46:=by omega
     exact h3
   rw[hex]
   exact Dt _ _ _ _ w
def iz (z:Int) (s:ByteArray) (e:ff) (K:List Nat):Option (List (Nat×Option Int)×Bool):=K.foldl (fun o p=>o.bind fun q=>if bt s p=46 then some (q.1,true) else (ke z s e p).map fun x=>(q.1++[x],q.2)) (some ([],false))
theorem Fy (s:ByteArray) (e:ff) (K:List Nat):iz 0 s e K=fZ s e K:=rfl
theorem rR (z:Int) (s:ByteArray) (e:ff) (K:List Nat) (j:Nat) (hj:j<K.length):iz z s e (K.take (j+1))=(iz z s e (K.take j)).bind fun q=>if bt s K[j]=46 then some (q.1,true) else (ke z s e K[j]).map fun x=>(q.1++[x],q.2):=by
 unfold iz
 rw[List.take_succ_eq_append_getElem hj,List.foldl_append]
 rfl
theorem A4 (z:Int) (s:ByteArray) (e:ff) (K:List Nat):∀ j,iz z s e (K.take j)=none→iz z s e K=none:=by
 intro j h
 have:∀ (l:List Nat),l.foldl (fun o p=>o.bind fun q=>if bt s p=46 then some (q.1,true) else (ke z s e p).map fun x=>(q.1++[x],q.2)) (none:Option (List (Nat×Option Int)×Bool))=none:=by
  intro l
  induction l with
  |nil=>rfl
  |cons p l ih=>exact ih
 unfold iz at h ⊢
 rw[←List.take_append_drop j K,List.foldl_append,h]
 exact this _
theorem qG (z:Int) (s:ByteArray) (e:ff) (K:List Nat):∀ j,j≤K.length→∀ q,iz z s e (K.take j)=some q→q.1.length≤j
 |0,_,q,h=>by
  have:q=([],false):=by simpa [iz] using h.symm
  rw[this]
  simp
 |j+1,hj,q,h=>by
  rw[rR z s e K j (by omega)] at h
  cases ho:iz z s e (K.take j) with
  |none=>rw[ho] at h;cases h
  |some r=>
   have ih:=qG z s e K j (by omega) r ho
   rw[ho] at h
   simp only[Option.bind_some] at h
   split at h
   ·cases h;simp only;omega
   ·cases hx:ke z s e (K[j]'(by omega)) with
    |none=>rw[hx] at h;cases h
    |some x=>
     rw[hx] at h
     cases h
     simp only[List.length_append,List.length_cons,List.length_nil]
     omega
def ip (x:Nat×Option Int):Wr:=(aw x.1,x.2.getD (-1))
structure Gg where
 c:ByteArray
 v:Int
 ok:Bool
 h:Bool
def tO (s:ByteArray) (e:ff) (p:Nat):Gg:=
 if bt s p=46 then ⟨ByteArray.empty,0,true,true⟩
 else match ke (-1) s e p with
  |some x=>⟨(ip x).1,(ip x).2,true,false⟩
  |none=>⟨ByteArray.empty,0,false,false⟩
theorem Fb (s:ByteArray) (e:ff) (p:Nat):F8 s e p=.tuple #[.agg #[.string (tO s e p).c,.int .i64 (tO s e p).v],.bool (tO s e p).ok,.bool (tO s e p).h]:=by
 unfold F8 tO
 split
 ·rfl
 ·cases ke (-1) s e p <;> rfl
theorem DP (s:ByteArray) (e:ff) (K:List Nat) (j:Nat) (hj:j<K.length) (q:List (Nat×Option Int)×Bool) (hq:iz (-1) s e (K.take j)=some q) :
  ((tO s e K[j]).ok=false→iz (-1) s e K=none)∧((tO s e K[j]).ok=true→(tO s e K[j]).h=true→iz (-1) s e (K.take (j+1))=some (q.1,true))∧
    ((tO s e K[j]).ok=true→(tO s e K[j]).h=false→∃ x,iz (-1) s e (K.take (j+1))=some (q.1++[x],q.2)∧ip x=((tO s e K[j]).c,(tO s e K[j]).v)):=by
 have ht:=rR (-1) s e K j hj
 rw[hq] at ht
 simp only[Option.bind_some] at ht
 unfold tO
 by_cases h46:bt s K[j]=46
 ·rw[if_pos h46] at ht ⊢
  exact⟨(fun h=>by cases h),(fun _ _=>ht),(fun _ h=>by cases h)⟩
 ·rw[if_neg h46] at ht ⊢
  cases hx:ke (-1) s e K[j] with
  |none=>
   rw[hx] at ht
   exact⟨(fun _=>A4 _ s e K (j+1) ht),(fun h=>by cases h),(fun h=>by cases h)⟩
  |some x=>
   rw[hx] at ht
   exact⟨(fun h=>by cases h),(fun _ h=>by cases h),fun _ _=>⟨x,ht,rfl⟩⟩
def Fg (o:Option (List (Nat×Option Int)×Bool)) (w:World) (e:Ending) (w':World):Prop:=w.grownBy w' none∧match o with
 |none=>e=.returned (.tuple #[.slice none 0 0,.bool false,.bool false])
 |some q=>∃ v,e=.returned (.tuple #[v,.bool true,.bool q.2])∧w'.ownsRow w.heap.size 107 2 v q.1.length (aO (q.1.map ip))
def br.nf (S:br):br:={ S with fired:=[] }
def dy (com:List (List Wr)) (c:Nat):gt:=(List.range com.length).filterMap fun t=>(bR (com.getD t []) (aw c)).map fun v=>(((t:Nat):Int)+1,v)
theorem mq (com:List (List Wr)) (l:List Wr) (c:Nat):dy (com++[l]) c=dy com c++(match bR l (aw c) with|some v=>[((com.length:Int)+1,v)]|none=>[]):=by
 unfold dy
 rw[List.length_append,List.length_singleton,List.range_succ,List.filterMap_append]
 congr 1
 ·apply dH
  intro t ht
  rw[nD _ _ _ (by simpa using ht)]
 ·have:(com++[l]).getD com.length []=l:=by simp[List.getD]
  simp only[List.filterMap_cons,List.filterMap_nil,this]
  cases bR l (aw c) <;> rfl
theorem lq {com:List (List Wr)} {c:Nat} {p:Int×Option Int} (h:p∈dy com c):1≤p.1∧p.1≤com.length:=by
 unfold dy at h
 obtain⟨t,ht,hm⟩:=List.mem_filterMap.mp h
 obtain⟨v,_,rfl⟩:=Option.map_eq_some_iff.mp hm
 have:t<com.length:=by simpa using ht
 simp only
 omega
def ap.full (X:ap) (com:List (List Wr)):ap:={ X with hist:=dy com }
def rL (com:List (List Wr)):Nat:=keptN ⟨((.bool false,0),ByteArray.empty,[]),0,fun _=>.zero,0,fun _=>0,dy com⟩ 60
def bk.nf (E:bk):bk:={ E with opn:=E.opn.map br.nf,kept:=List.replicate (rL E.com) (0,ByteArray.empty,0) }
theorem bk.nf_len (E:bk):E.nf.opn.length=E.opn.length:=by simp[bk.nf]
theorem df.add {P:aI} {S:br} (h:df P S) (c:Nat) (hc:c<60) (p:Wr) (v:Option Int) (hp:p.1=aw c) (hv:lH p.2=v):df (P.put c v) (S.add p):=by
 refine⟨h.num,h.pos,h.snap,?_,?_,?_,h.fired,h.mks⟩
 ·intro c' hc'
  show cH P.wr c (some v) c'=bR (S.wr++[p]) (aw c')
  rw[me]
  by_cases e:c'=c
  ·subst e
   rw[aW,if_pos hp,hv]
  ·rw[bE _ _ _ e,if_neg (by rw[hp];exact fun he=>e (gQ hc' hc he.symm))]
   exact h.wr c' hc'
 ·show P.made+1=((S.wr++[p]).length:Nat)
  rw[h.made]
  simp
 ·intro c' hc' k hk
  show cH P.tm c (P.snap+(P.made+1)) c'=S.snap+((k:Int)+1)
  have hk':bd (aw c') (S.wr++[p])=some k:=hk
  rw[ks] at hk'
  by_cases e:c'=c
  ·subst e
   rw[if_pos hp] at hk'
   cases hk'
   rw[aW,h.made,h.snap]
  ·rw[if_neg (by rw[hp];exact fun he=>e (gQ hc' hc he.symm))] at hk'
   rw[bE _ _ _ e]
   exact h.tm c' hc' k hk'
theorem Cr {x:Nat×Option Int} (h:∀ v,x.2=some v→0≤v∧v≤9):lH (ip x).2=x.2:=by
 obtain⟨c,v⟩:=x
 cases v with
 |none=>rfl
 |some v=>
  have:=h v rfl
  show lH v=some v
  unfold lH
  rw[if_neg (by omega)]
theorem df.puts:∀ (ws:List (Nat×Option Int)) {P:aI} {S:br},df P S→(∀ x∈ws,x.1<60∧∀ v,x.2=some v→0≤v∧v≤9)→df (puts P ws) { S with wr:=S.wr++ws.map ip }
 |[],P,S,h,_=>by simpa [Go.Proofs.YthlhbjnkohinmaaGreat.puts] using h
 |x::ws,P,S,h,hw=>by
  have h1:=hw x (by simp)
  have h2:=df.puts ws (h.add x.1 h1.1 (ip x) x.2 rfl (Cr h1.2)) (fun y hy=>hw y (by simp[hy]))
  have e:({ S.add (ip x) with wr:=(S.add (ip x)).wr++ws.map ip }:br)={ S with wr:=S.wr++(x::ws).map ip }:=by simp[br.add]
  rw[e] at h2
  exact h2
theorem g9.set {X:ap} {E:bk} {L:List (Nat×br)} (h:g9 X E L) {i:Nat} (hi:i<L.length) {P':aI} {S':br} (hs:df P' S') (hnum:S'.num=L[i].2.num) (hsn:S'.snap=L[i].2.snap) :
  ∃ L',g9 (X.setSes L[i].1 P') (qA E i S') L':=by
 refine⟨L.set i (L[i].1,S'),?_⟩
 have hm1:(L.set i (L[i].1,S')).map (·.1)=L.map (·.1):=by
  apply List.ext_getElem (by simp)
  intro j h1 h2
  simp[List.getElem_set]
  intro e
  subst e
  rfl
 have hm2:(L.set i (L[i].1,S')).map (·.2.num)=L.map (·.2.num):=by
  apply List.ext_getElem (by simp)
  intro j h1 h2
  simp[List.getElem_set]
  intro e
  subst e
  exact hnum
 have hmem:∀ q∈L.set i (L[i].1,S'),(q∈L∧q.1≠L[i].1)∨q=(L[i].1,S'):=by
  intro q hq
  obtain⟨j,hj,rfl⟩:=List.mem_iff_getElem.mp hq
  have hj2:j<L.length:=by simpa using hj
  rw[List.getElem_set]
  by_cases e:i=j
  ·subst e;right;simp
  ·left
   rw[if_neg e]
   refine⟨List.getElem_mem hj2,?_⟩
   intro he
   have hn:=h.places
   rw[List.nodup_iff_pairwise_ne,List.pairwise_iff_getElem] at hn
   rcases Nat.lt_or_gt_of_ne e with hlt|hlt
   ·exact hn i j (by simpa using hi) (by simpa using hj2) hlt (by simpa using he.symm)
   ·exact hn j i (by simpa using hj2) (by simpa using hi) hlt (by simpa using he)
 refine { opn:=?_,places:=by rw[hm1];exact h.places,lt:=?_,ses:=?_,free:=?_,nums:=by rw[hm2];exact h.nums,opened:=h.opened,openedPos:=h.openedPos,numLe:=?_,snap:=?_,latest:=h.latest,hist:=h.hist,histS:=h.histS,histLe:=h.histLe,last:=h.last,room:=h.room,kept:=(eJ rfl 60).trans h.kept }
 ·show E.opn.set i S'=_
  rw[h.opn,List.map_set]
 ·intro q hq
  rcases hmem q hq with ⟨h1,_⟩|rfl
  ·exact h.lt q h1
  ·exact h.lt L[i] (List.getElem_mem hi)
 ·intro q hq
  rcases hmem q hq with ⟨h1,h2⟩|rfl
  ·show df (cH X.ses _ _ q.1) q.2
   rw[bE _ _ _ h2]
   exact h.ses q h1
  ·show df (cH X.ses _ _ L[i].1) S'
   rw[aW]
   exact hs
 ·intro j hj hjL
  show (cH X.ses _ _ j).num=0
  by_cases e:j=L[i].1
  ·subst e
   have:(L[i].1,S')∈L.set i (L[i].1,S'):=List.mem_iff_getElem.mpr ⟨i,by simpa using hi,by simp⟩
   exact absurd rfl (hjL (L[i].1,S') this)
  ·rw[bE _ _ _ e]
   apply h.free j hj
   intro q hq he
   have:q.1∈(L.set i (L[i].1,S')).map (·.1):=by rw[hm1];exact List.mem_map.mpr ⟨q,hq,rfl⟩
   obtain⟨q',hq',e'⟩:=List.mem_map.mp this
   exact hjL q' hq' (e'.trans he)
 ·intro q hq
  rcases hmem q hq with ⟨h1,_⟩|rfl
  ·exact h.numLe q h1
  ·show S'.num≤_
   rw[hnum]
   exact h.numLe L[i] (List.getElem_mem hi)
 ·intro q hq
  rcases hmem q hq with ⟨h1,_⟩|rfl
  ·exact h.snap q h1
  ·show 0≤S'.snap∧S'.snap≤_
   rw[hsn]
   exact h.snap L[i] (List.getElem_mem hi)
theorem xI (X:ap) (com:List (List Wr)):a8 (X.full com)=((a8 X).1,(a8 X).2.full com):=by
 have e:ba (X.full com) 0=ba X 0:=rfl
 unfold a8
 rw[e]
 cases ba X 0 <;> rfl
theorem A0 (X:ap) (com:List (List Wr)) (n:Int) (s:ByteArray):cj (X.full com) n s=((cj X n s).1,(cj X n s).2.full com):=by
 have e:aL (X.full com) n=aL X n:=rfl
 unfold cj
 rw[e]
 cases aL X n with
 |none=>rfl
 |some k=>cases eP s <;> rfl
theorem wm (X:ap) (com:List (List Wr)) (n:Int) (s:ByteArray):aY (X.full com) n s=((aY X n s).1,(aY X n s).2.full com):=by
 have e:aL (X.full com) n=aL X n:=rfl
 unfold aY
 rw[e]
 cases aL X n with
 |none=>rfl
 |some k=>cases eC s <;> rfl
theorem vD (X:ap) (com:List (List Wr)) (n:Int):aX (X.full com) n=((aX X n).1,(aX X n).2.full com):=by
 have e:aL (X.full com) n=aL X n:=rfl
 unfold aX
 rw[e]
 cases aL X n <;> rfl
theorem lk (l:List br) (n:Int):eF (l.map br.nf) n=eF l n:=by
 unfold eF
 rw[List.findIdx?_map]
 rfl
theorem ph (l:List br) (n:Int):dq (l.map br.nf) n=(dq l n).map br.nf:=by
 unfold dq
 rw[List.find?_map]
 rfl
theorem yG (E:bk) (k:Nat) (p:Wr):(i9 E k p).nf=i9 E.nf k p:=by
 unfold i9 bk.nf
 congr 1
 apply List.ext_getElem (by simp)
 intro j h1 h2
 simp only[List.getElem_map,List.getElem_modify]
 split <;> rfl
theorem yY (E:bk) (n:Int):(dF E n).nf=dF E.nf n:=by
 unfold dF bk.nf
 congr 1
 rw[List.filter_map]
 rfl
theorem EY (E:bk) (k:Nat) (S:br):(qA E k S).nf=qA E.nf k S.nf:=by
 unfold qA bk.nf
 congr 1
 rw[List.map_set]
theorem Ap (E:bk):cE E.nf=((cE E).1,(cE E).2.nf):=by
 unfold cE
 rw[E.nf_len]
 split
 ·rfl
 ·have:({ E with opened:=E.opened+1,opn:=E.opn++[⟨E.opened+1,E.com.length,[],[]⟩] }:bk).nf={ E.nf with opened:=E.nf.opened+1,opn:=E.nf.opn++[⟨E.nf.opened+1,E.nf.com.length,[],[]⟩] }:=by
   simp[bk.nf,br.nf]
  rw[this]
  rfl
theorem El (E:bk) (n:Int) (s:ByteArray):fw E.nf n s=((fw E n s).1,(fw E n s).2.nf):=by
 have e:eF E.nf.opn n=eF E.opn n:=lk _ _
 unfold fw
 rw[e]
 cases eF E.opn n with
 |none=>rfl
 |some k=>
  cases eP s with
  |false=>rfl
  |true=>exact Prod.ext rfl (yG E k _).symm
theorem Bo (E:bk) (n:Int) (s:ByteArray):cS E.nf n s=((cS E n s).1,(cS E n s).2.nf):=by
 have e:eF E.nf.opn n=eF E.opn n:=lk _ _
 unfold cS
 rw[e]
 cases eF E.opn n with
 |none=>rfl
 |some k=>
  cases eC s with
  |false=>rfl
  |true=>exact Prod.ext rfl (yG E k _).symm
theorem Bw (E:bk) (n:Int):cR E.nf n=((cR E n).1,(cR E n).2.nf):=by
 have e:eF E.nf.opn n=eF E.opn n:=lk _ _
 unfold cR
 rw[e]
 cases eF E.opn n with
 |none=>rfl
 |some k=>exact Prod.ext rfl (yY E n).symm
end Go.Proofs.YthlhbjnkohinmaaGreat
