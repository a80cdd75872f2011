import Derived.Test.YthlhbjnkohinmaaGreatP42
import Derived.Test.YthlhbjnkohinmaaGreatP32
import Derived.Test.YthlhbjnkohinmaaGreatP31
import Derived.Test.YthlhbjnkohinmaaGreatP25
import Derived.Maps.AppendAt
namespace Go.Proofs.YthlhbjnkohinmaaGreat
set_option maxRecDepth 100000
set_option maxHeartbeats 8000000
open Go.RowKit
theorem FV {s:ByteArray}{a b:Nat}(h:bd (bt s a)=true)(hb:b=c9 s a):g9 (bt (s.extract a b) 1)=g9 (bt s (a+1)):=by
 have hle:b≤s.size:=by rw[hb];exact ks h
 cases ht:fe (bt s (a+1)) with
 |true=>
  have:b=a+2:=by rw[hb];unfold c9;rw[ht];rfl
  rw[iY hle (by omega)]
 |false=>
  have hb1:b=a+1:=by rw[hb];unfold c9;rw[ht];rfl
  have h1:bt (s.extract a b) 1=0:=oh (by rw[da hle];omega)
  rw[h1]
  simp only[fe,Bool.or_eq_false_iff,beq_eq_false_iff_ne] at ht
  unfold g9
  rw[if_neg ht.1,if_neg ht.2]
  rfl
def lC (z:Int)(s:ByteArray)(e:fq)(a:Nat):Int:=fF z e (bt s a)+g9 (bt s (a+1))
def kt (z:Int)(s:ByteArray)(e:fq)(p:Nat):Option (Nat×Option Int):=
 if bt s p=43 then
  (if (0≤lC z s e (p+2)∧lC z s e (p+2)<10)∧0≤lC z s e (c9 s (p+2))∧lC z s e (c9 s (p+2))<10
   then some (((bt s (p+1) - 97)*10+lC z s e (p+2)).toNat,some (lC z s e (c9 s (p+2)))) else none)
 else (if 0≤lC z s e (p+2)∧lC z s e (p+2)<10 then some (((bt s (p+1) - 97)*10+lC z s e (p+2)).toNat,none) else none)
theorem wN (s:ByteArray)(e:fq)(a:Nat)(he:∀ n v,e n=some v→0≤v∧v≤9):-2≤lC (-1) s e a∧lC (-1) s e a≤10:=by
 have h:=ye e (bt s a) he
 unfold lC g9
 split
 ·omega
 ·split <;> omega
theorem oj (e:fq)(s:ByteArray)(a b:Nat)(hul:s.size≤400)(h0:bd (bt s a)=true)(hb:b=c9 s a)(he:∀ n v,e n=some v→0≤v∧v≤9)(w:World):
  Calls Tryz.prog 121 #[fG e,.string (s.extract a b)] w fun r w'=>r=.returned (.int .i64 (lC (-1) s e a))∧w.grownBy w' none:=by
 have hle:b≤s.size:=by rw[hb];exact ks h0
 have hgt:a<b:=by rw[hb];exact ew s a
 have e0:bt (s.extract a b) 0=bt s a:=by rw[iY hle (by omega)];rfl
 have h:=xM e (s.extract a b) w (by rw[da hle];omega) (by rw[da hle];omega) (by rw[e0];exact h0) he
 rw[e0,FV h0 hb] at h
 exact h
def F7 (s:ByteArray)(e:fq)(p:Nat):Value:=
 if bt s p=46 then .tuple #[.agg #[.string ByteArray.empty,.int .i64 0],.bool true,.bool true]
 else match kt (-1) s e p with
  |some x=>.tuple #[.agg #[.string (ax x.1),.int .i64 (x.2.getD (-1))],.bool true,.bool false]
  |none=>.tuple #[.agg #[.string ByteArray.empty,.int .i64 0],.bool false,.bool false]
theorem yn {c d:Int}(hc:97≤c∧c≤102)(hd:0≤d∧d<10):strOfNums [c,48+d]=ax ((c - 97)*10+d).toNat:=by
 unfold ax
 rw[show (97:Int)+((((c - 97)*10+d).toNat:Nat):Int) / 10=c by omega,show (48:Int)+((((c - 97)*10+d).toNat:Nat):Int) % 10=48+d by omega]
theorem BL (e:fq)(s:ByteArray)(p:Nat)(w:World)(hul:s.size≤400)(hok:cT s p=true)(he:∀ n v,e n=some v→0≤v∧v≤9):
  Calls Tryz.prog 98 #[fG e,.string (s.extract p (p+aS s p))] w fun r w'=>r=.returned (F7 s e p)∧w.grownBy w' none:=by
 unfold cT at hok
 unfold aS F7
 by_cases h43:bt s p=43
 ·rw[if_pos h43] at hok ⊢
  rw[if_neg (by rw[h43];decide)]
  unfold fJ at hok
  simp only[Bool.and_eq_true] at hok
  obtain⟨⟨hc,hs1⟩,hs2⟩:=hok
  have hcl:97≤bt s (p+1)∧bt s (p+1)≤102:=by simpa [aR] using hc
  obtain⟨k,hk⟩:∃ k,k=c9 s (p+2):=⟨_,rfl⟩
  obtain⟨q,hq⟩:∃ q,q=c9 s k:=⟨_,rfl⟩
  have hs2':bd (bt s k)=true:=by rw[hk];exact hs2
  have hql:q≤s.size:=by rw[hq];exact ks hs2'
  have hkq:k<q:=by rw[hq];exact ew s k
  have hpk:p+2<k:=by rw[hk];exact ew s (p+2)
  have hlen:p+(1+cQ s (p+1))=q:=by
   unfold cQ
   rw[hc,hs1,show c9 s (p+1+1)=k from hk.symm,hs2',←hq]
   simp only[if_true]
   omega
  rw[hlen]
  have uz:(s.extract p q).size=q - p:=da hql
  have d1:=wN s e (p+2) he
  have d2:=wN s e k he
  have x2:(s.extract p q).extract 2 (k - p)=s.extract (p+2) k:=by rw[pG hql (by omega),show p+(k - p)=k by omega]
  have x3:(s.extract p q).extract (k - p) (s.extract p q).size=s.extract k q:=by rw[uz,pG hql (by omega),show p+(k - p)=k by omega,show p+(q - p)=q by omega]
  have c0:bt (s.extract p q) 0=43:=by rw[iY hql (by omega)];exact h43
  have c1:bt (s.extract p q) 1=bt s (p+1):=iY hql (by omega)
  have c3:bt (s.extract p q) 3=bt s (p+3):=iY hql (by omega)
  have HW1:Hid (∀ W,Calls Tryz.prog 121 #[fG e,.string ((s.extract p q).extract 2 (k - p))] W fun r w'=>r=.returned (.int .i64 (lC (-1) s e (p+2)))∧W.grownBy w' none):=af (fun W=>by rw[x2];exact oj e s (p+2) k hul hs1 hk he W)
  have HW2:Hid (∀ W,Calls Tryz.prog 121 #[fG e,.string ((s.extract p q).extract (k - p) (s.extract p q).size)] W fun r w'=>r=.returned (.int .i64 (lC (-1) s e k))∧W.grownBy w' none):=af (fun W=>by rw[x3];exact oj e s k q hul hs2' hq he W)
  have key:lS (s.extract p q) (lC (-1) s e (p+2)) (lC (-1) s e k) (decide (0≤lC (-1) s e (p+2))&&decide (lC (-1) s e (p+2)<10)&&decide (0≤lC (-1) s e k)&&decide (lC (-1) s e k<10))=(match kt (-1) s e p with
   |some x=>.tuple #[.agg #[.string (ax x.1),.int .i64 (x.2.getD (-1))],.bool true,.bool false]
   |none=>.tuple #[.agg #[.string ByteArray.empty,.int .i64 0],.bool false,.bool false]):=by
   unfold kt lS
   rw[if_pos h43,←hk,c1]
   by_cases ho:(0≤lC (-1) s e (p+2)∧lC (-1) s e (p+2)<10)∧0≤lC (-1) s e k∧lC (-1) s e k<10
   ·rw[if_pos ho,if_pos (by simp only[Bool.and_eq_true,decide_eq_true_eq];omega),yn hcl ho.1]
    rfl
   ·rw[if_neg ho,if_neg (by simp only[Bool.and_eq_true,decide_eq_true_eq];omega)]
  rw[←key]
  cases ht:fe (bt s (p+3)) with
  |true=>
   have hk4:k - p=4:=by rw[hk];unfold c9;rw[show p+2+1=p+3 from rfl,ht];simp only[if_true];omega
   rw[hk4] at HW1 HW2
   exact zC _ _ _ _ _ _ (s.extract p q) w (by omega) (by omega) c0 (by omega) (by rw[c3];exact ht) d1.1 d1.2 d2.1 d2.2 HW1 HW2
  |false=>
   have hk3:k - p=3:=by rw[hk];unfold c9;rw[show p+2+1=p+3 from rfl,ht];simp only[Bool.false_eq_true,if_false];omega
   rw[hk3] at HW1 HW2
   exact zt _ _ _ _ _ _ (s.extract p q) w (by omega) (by omega) c0 (by omega) (by rw[c3];exact ht) d1.1 d1.2 d2.1 d2.2 HW1 HW2
 ·rw[if_neg h43] at hok ⊢
  by_cases h45:bt s p=45
  ·rw[if_pos h45] at hok ⊢
   rw[if_neg (by rw[h45];decide)]
   unfold gq at hok
   simp only[Bool.and_eq_true] at hok
   obtain⟨hc,hs1⟩:=hok
   have hcl:97≤bt s (p+1)∧bt s (p+1)≤102:=by simpa [aR] using hc
   obtain⟨k,hk⟩:∃ k,k=c9 s (p+2):=⟨_,rfl⟩
   have hkl:k≤s.size:=by rw[hk];exact ks hs1
   have hpk:p+2<k:=by rw[hk];exact ew s (p+2)
   have hlen:p+(1+c8 s (p+1))=k:=by
    unfold c8
    rw[hc,hs1,show c9 s (p+1+1)=k from hk.symm]
    simp only[if_true]
    omega
   rw[hlen]
   have uz:(s.extract p k).size=k - p:=da hkl
   have d1:=wN s e (p+2) he
   have x2:(s.extract p k).extract 2 (k - p)=s.extract (p+2) k:=by rw[pG hkl (by omega),show p+(k - p)=k by omega]
   have c0:bt (s.extract p k) 0=45:=by rw[iY hkl (by omega)];exact h45
   have c1:bt (s.extract p k) 1=bt s (p+1):=iY hkl (by omega)
   have HW1:Hid (∀ W,Calls Tryz.prog 121 #[fG e,.string ((s.extract p k).extract 2 (k - p))] W fun r w'=>r=.returned (.int .i64 (lC (-1) s e (p+2)))∧W.grownBy w' none):=af (fun W=>by rw[x2];exact oj e s (p+2) k hul hs1 hk he W)
   have key:lS (s.extract p k) (lC (-1) s e (p+2)) (-1) (decide (0≤lC (-1) s e (p+2))&&decide (lC (-1) s e (p+2)<10))=(match kt (-1) s e p with
    |some x=>.tuple #[.agg #[.string (ax x.1),.int .i64 (x.2.getD (-1))],.bool true,.bool false]
    |none=>.tuple #[.agg #[.string ByteArray.empty,.int .i64 0],.bool false,.bool false]):=by
    unfold kt lS
    rw[if_neg h43,c1]
    by_cases ho:0≤lC (-1) s e (p+2)∧lC (-1) s e (p+2)<10
    ·rw[if_pos ho,if_pos (by simp only[Bool.and_eq_true,decide_eq_true_eq];omega),yn hcl ho]
     rfl
    ·rw[if_neg ho,if_neg (by simp only[Bool.and_eq_true,decide_eq_true_eq];omega)]
   rw[←key]
   cases ht:fe (bt s (p+3)) with
   |true=>
    have hk4:k - p=4:=by rw[hk];unfold c9;rw[show p+2+1=p+3 from rfl,ht];simp only[if_true];omega
    rw[hk4] at HW1
    exact AR _ _ _ _ _ (s.extract p k) w (by omega) (by omega) c0 (by omega) (by rw[iY hkl (by omega)];exact ht) d1.1 d1.2 HW1
   |false=>
    have hk3:k - p=3:=by rw[hk];unfold c9;rw[show p+2+1=p+3 from rfl,ht];simp only[Bool.false_eq_true,if_false];omega
    rw[hk3] at HW1
    exact A9 _ _ _ _ _ (s.extract p k) w (by omega) (by omega) c0 (by omega) d1.1 d1.2 HW1
  ·rw[if_neg h45] at hok ⊢
   have h46:bt s p=46:=by simpa using hok
   rw[if_pos h46,if_pos h46]
   have hlt:p<s.size:=de (by rw[h46];decide)
   have hex:s.extract p (p+1)=⟨#[46]⟩:=by
    apply ByteArray.ext
    apply Array.ext
    ·have:(s.extract p (p+1)).data.size=(s.extract p (p+1)).size:=rfl
     rw[this,da (by omega)]
     simp
    ·intro i h1 h2
     have hi:i=0:=by simp at h2;omega
     subst hi
     have hb:=iY (s:=s) (a:=p) (b:=p+1) (k:=0) (by omega) (by omega)
     rw[bh (by rw[da (by omega)];omega),show p+0=p from rfl,h46] at hb
     apply UInt8.toNat_inj.mp
     have h3:((s.extract p (p+1))[0]'(by rw[da (by omega)];omega)).toNat=46:=by omega
     exact h3
   rw[hex]
   exact CH _ _ _ _ w
def iw (z:Int)(s:ByteArray)(e:fq)(K:List Nat):Option (List (Nat×Option Int)×Bool):=K.foldl (fun o p=>o.bind fun q=>if bt s p=46 then some (q.1,true) else (kt z s e p).map fun x=>(q.1++[x],q.2)) (some ([],false))
theorem FB (s:ByteArray)(e:fq)(K:List Nat):iw 0 s e K=fW s e K:=rfl
theorem rY (z:Int)(s:ByteArray)(e:fq)(K:List Nat)(j:Nat)(hj:j<K.length):iw z s e (K.take (j+1))=(iw z s e (K.take j)).bind fun q=>if bt s K[j]=46 then some (q.1,true) else (kt z s e K[j]).map fun x=>(q.1++[x],q.2):=by
 unfold iw
 rw[List.take_succ_eq_append_getElem hj,List.foldl_append]
 rfl
theorem Bg (z:Int)(s:ByteArray)(e:fq)(K:List Nat):∀ j,iw z s e (K.take j)=none→iw z s e K=none:=by
 intro j h
 have:∀ (l:List Nat),l.foldl (fun o p=>o.bind fun q=>if bt s p=46 then some (q.1,true) else (kt z s e p).map fun x=>(q.1++[x],q.2)) (none:Option (List (Nat×Option Int)×Bool))=none:=by
  intro l
  induction l with
  |nil=>rfl
  |cons p l ih=>exact ih
 unfold iw at h ⊢
 rw[←List.take_append_drop j K,List.foldl_append,h]
 exact this _
theorem pz (z:Int)(s:ByteArray)(e:fq)(K:List Nat):∀ j,j≤K.length→∀ q,iw z s e (K.take j)=some q→q.1.length≤j
 |0,_,q,h=>by
  have:q=([],false):=by simpa [iw] using h.symm
  rw[this]
  simp
 |j+1,hj,q,h=>by
  rw[rY z s e K j (by omega)] at h
  cases ho:iw z s e (K.take j) with
  |none=>rw[ho] at h;cases h
  |some r=>
   have ih:=pz z s e K j (by omega) r ho
   rw[ho] at h
   simp only[Option.bind_some] at h
   split at h
   ·cases h;simp only;omega
   ·cases hx:kt z s e (K[j]'(by omega)) with
    |none=>rw[hx] at h;cases h
    |some x=>
     rw[hx] at h
     cases h
     simp only[List.length_append,List.length_cons,List.length_nil]
     omega
def iq (x:Nat×Option Int):Wr:=(ax x.1,x.2.getD (-1))
structure Gd where
 c:ByteArray
 v:Int
 ok:Bool
 h:Bool
def tS (s:ByteArray)(e:fq)(p:Nat):Gd:=
 if bt s p=46 then ⟨ByteArray.empty,0,true,true⟩
 else match kt (-1) s e p with
  |some x=>⟨(iq x).1,(iq x).2,true,false⟩
  |none=>⟨ByteArray.empty,0,false,false⟩
theorem E7 (s:ByteArray)(e:fq)(p:Nat):F7 s e p=.tuple #[.agg #[.string (tS s e p).c,.int .i64 (tS s e p).v],.bool (tS s e p).ok,.bool (tS s e p).h]:=by
 unfold F7 tS
 split
 ·rfl
 ·cases kt (-1) s e p <;> rfl
theorem CW (s:ByteArray)(e:fq)(K:List Nat)(j:Nat)(hj:j<K.length)(q:List (Nat×Option Int)×Bool)(hq:iw (-1) s e (K.take j)=some q):
  ((tS s e K[j]).ok=false→iw (-1) s e K=none)∧((tS s e K[j]).ok=true→(tS s e K[j]).h=true→iw (-1) s e (K.take (j+1))=some (q.1,true))∧
    ((tS s e K[j]).ok=true→(tS s e K[j]).h=false→∃ x,iw (-1) s e (K.take (j+1))=some (q.1++[x],q.2)∧iq x=((tS s e K[j]).c,(tS s e K[j]).v)):=by
 have ht:=rY (-1) s e K j hj
 rw[hq] at ht
 simp only[Option.bind_some] at ht
 unfold tS
 by_cases h46:bt s K[j]=46
 ·rw[if_pos h46] at ht ⊢
  exact⟨(fun h=>by cases h),(fun _ _=>ht),(fun _ h=>by cases h)⟩
 ·rw[if_neg h46] at ht ⊢
  cases hx:kt (-1) s e K[j] with
  |none=>
   rw[hx] at ht
   exact⟨(fun _=>Bg _ s e K (j+1) ht),(fun h=>by cases h),(fun h=>by cases h)⟩
  |some x=>
   rw[hx] at ht
   exact⟨(fun h=>by cases h),(fun _ h=>by cases h),fun _ _=>⟨x,ht,rfl⟩⟩
def Fm (o:Option (List (Nat×Option Int)×Bool))(w:World)(e:Ending)(w':World):Prop:=w.grownBy w' none∧match o with
 |none=>e=.returned (.tuple #[.slice none 0 0,.bool false,.bool false])
 |some q=>∃ v,e=.returned (.tuple #[v,.bool true,.bool q.2])∧w'.ownsRow w.heap.size 107 2 v q.1.length (aP (q.1.map iq))
theorem EQ {W w:World}(h:Fr [] W w)(x0 x1:Value):Fr [] W ((w.setCell ⟨W.heap.size,0,none⟩ x0).setCell ⟨W.heap.size,1,none⟩ x1):=by
 exact (h.set (.inr (by simp)) _).set (.inr (by simp)) _
theorem AD (s:ByteArray)(i:In)(K:List Nat)(y gr rm rc ac:Nat)(ga:Option Addr)(w:World)(hs:s.size≤400)(hK:K.length≤400)(hKo:∀ p∈K,cT s p=true)(he:∀ n v,i.env n=some v→0≤v∧v≤9)(hrk:(i.rule:Int)<rm)(_hrm:rm≤400)
  (y1:y<w.heap.size) (g1:gr<w.heap.size) (hy:w.cell? ⟨y,0,none⟩=some (.slice (some ⟨gr,0,none⟩) rm rc)) (hr:w.cell? ⟨gr,i.rule*3+2,none⟩=some (.slice ga K.length ac)) (hrow:w.ownsRow 0 9 1 (.slice ga K.length ac) K.length (gH s K)) :
  Calls Tryz.prog 67 #[.pointer (some ⟨y,0,none⟩),ey i] w (Fm (iw (-1) s i.env K) w):=by
 obtain⟨i0,hi0,hz0,hz1,hz2⟩:=info_parts Tryz.info107
 have HROW:=af hrow
 have HDO:Hid (∀ k (hk:k<K.length) (W:World),Calls Tryz.prog 98 #[fG i.env,.string (s.extract K[k] (K[k]+aS s K[k]))] W fun r w'=>r=.returned (.tuple #[.agg #[.string (tS s i.env K[k]).c,.int .i64 (tS s i.env K[k]).v],.bool (tS s i.env K[k]).ok,.bool (tS s i.env K[k]).h])∧W.grownBy w' none):=af (fun k hk W=>by
  rw[←E7]
  exact BL i.env s K[k] W hs (hKo _ (List.getElem_mem hk)) he)
 have HST:Hid (∀ j (hj:j<K.length) (q:List (Nat×Option Int)×Bool),_):=af (fun j hj q=>CW s i.env K j hj q)
 have HLN:=af (pz (-1) s i.env K)
 have HALL:Hid (iw (-1) s i.env (K.take K.length)=iw (-1) s i.env K):=af (by rw[List.take_length])
 have HZ:Hid (iw (-1) s i.env (K.take 0)=some ([],false)):=af rfl
 obtain⟨a0,ha0⟩:∃ a0,a0=eI i.env 0:=⟨_,rfl⟩
 obtain⟨a1,ha1⟩:∃ a1,a1=eI i.env 1:=⟨_,rfl⟩
 obtain⟨a2,ha2⟩:∃ a2,a2=eI i.env 2:=⟨_,rfl⟩
 obtain⟨a3,ha3⟩:∃ a3,a3=eI i.env 3:=⟨_,rfl⟩
 obtain⟨ft,hft⟩:∃ ft,ft=bA i.facts:=⟨_,rfl⟩
 obtain⟨ru,hru⟩:∃ ru,ru=i.rule:=⟨_,rfl⟩
 unfold fG at HDO
 unfold ey
 rw[←ha0,←ha1,←ha2,←ha3] at HDO ⊢
 rw[←hru] at hrk hr ⊢
 rw[←hft]
 obtain⟨E,hE⟩:∃ E,E=i.env:=⟨_,rfl⟩
 rw[←hE] at HDO HST HLN HALL HZ ⊢
 obtain⟨OUT,hOUT⟩:∃ OUT,OUT=iw (-1) s E K:=⟨_,rfl⟩
 rw[←hOUT] at HST HALL ⊢
 clear hrow ha0 ha1 ha2 ha3 hft hru hE hOUT he hKo
 go_enter Tryz.func67,Tryz.ntmps67
 go_wp2_with fail
 go_quiet ((fail))
 generalize hW0:World.drewN _ _=W0
 have HW0:Hid (w.grownBy W0 none∧W0.heap[w.heap.size]?=some (.cells #[.int .i64 ru,.int .i64 a0,.int .i64 a1,.int .i64 a2,.int .i64 a3,.string ft] 136 (0,0))∧w.heap.size<W0.heap.size):=af (by
  rw[←hW0]
  exact⟨al (ab (ag _ _) _) _,heap_alloc_new w _,by simp⟩)
 clear hW0
 go_wp2_with fail
 have HRC:Hid (∀ k (hk:k<K.length) W,w.grownBy W none→∃ gc,ga=some ⟨gc,0,none⟩∧gc<w.heap.size∧W.cell? ⟨gc,k,none⟩=some (.string (s.extract K[k] (K[k]+aS s K[k])))):=af (fun k hk W hW=>by
  obtain⟨gc,e,_,_,hgc,hcell⟩:=aC HROW.out (by omega)
  refine⟨gc,e,hgc,am hW (hcell k _ ?_)⟩
  simp[gH,hk])
 clear hy hr HROW
 go_loopw [7,9,10] (fun v h t wr=>∃ k:Nat,∃ q:List (Nat×Option Int)×Bool,k≤K.length∧t=.int .i64 k∧h=.bool q.2∧iw (-1) s E (K.take k)=some q∧wr.ownsRow W0.heap.size 107 2 v q.1.length (aP (q.1.map iq))∧Fr [] W0 wr) (fun _ _ t _=>K.length - (intOf t).toNat)
 case atStart=>exact⟨0,([],false),by omega,rfl,rfl,HZ.out,World.ownsRow_nil _ _ _ _,Fr.refl [] _⟩
 case round=>
  obtain⟨k,q,hk,rfl,rfl,hq,hown,hfr⟩:=hrel
  have HFR:=af hfr
  have HOW:=af hown
  have HQ:=af hq
  have hql:=HLN.out k hk q hq
  have HGR:=af (ae HW0.out.1 (bG hfr))
  obtain⟨av,mv,cv,rfl⟩:=an hown
  have em:=au hown
  subst em
  by_cases hlt:k<K.length
  ·obtain⟨gc,rfl,hgc,k4⟩:=HRC.out k hlt wr HGR.out
   have hbx:wr.heap[w.heap.size]?=some (.cells #[.int .i64 ru,.int .i64 a0,.int .i64 a1,.int .i64 a2,.int .i64 a3,.string ft] 136 (0,0)):=(hfr.block _ HW0.out.2.2 (by simp)).trans HW0.out.2.1
   have k0:wr.cell? ⟨w.heap.size,1,none⟩=some (.int .i64 a0):=by rw[cell_of_row _ _ _ _ _ _ hbx];rfl
   have k1:wr.cell? ⟨w.heap.size,2,none⟩=some (.int .i64 a1):=by rw[cell_of_row _ _ _ _ _ _ hbx];rfl
   have k2:wr.cell? ⟨w.heap.size,3,none⟩=some (.int .i64 a2):=by rw[cell_of_row _ _ _ _ _ _ hbx];rfl
   have k3:wr.cell? ⟨w.heap.size,4,none⟩=some (.int .i64 a3):=by rw[cell_of_row _ _ _ _ _ _ hbx];rfl
   have nb1:w.heap.size<wr.heap.size:=Nat.lt_of_lt_of_le HW0.out.2.2 hfr.size
   have nb:w.heap.size≠wr.heap.size:=by omega
   have nf1:gc<wr.heap.size:=by omega
   have nf:gc≠wr.heap.size:=by omega
   have HC:=af (HDO.out k hlt)
   have HS:=af (HST.out k hlt q hq)
   obtain⟨D,hD⟩:∃ D,D=tS s E K[k]:=⟨_,rfl⟩
   rw[←hD] at HC HS
   obtain⟨ct,hct⟩:∃ ct,ct=s.extract K[k] (K[k]+aS s K[k]):=⟨_,rfl⟩
   rw[←hct] at k4 HC
   obtain⟨dc,dv,dok,dh⟩:=D
   simp only at HC HS
   clear hD hct hbx hown hq hfr
   go_wp2_with fail
   go_cut [11,12,13] from 30 to 39 (fun p o h wx=>∃ g,p=.pointer (some ⟨g,0,none⟩)∧o=.bool dok∧h=.bool dh∧wx.heap[g]?=some (.cells #[.string dc,.int .i64 dv] 107 (0,0))∧wr.heap.size≤g∧Fr [] wr wx)
   case first=>
    go_region_held3 (fun W=>W.cell? ⟨w.heap.size,1,none⟩=some (.int .i64 a0)∧W.cell? ⟨w.heap.size,2,none⟩=some (.int .i64 a1)∧W.cell? ⟨w.heap.size,3,none⟩=some (.int .i64 a2)∧W.cell? ⟨w.heap.size,4,none⟩=some (.int .i64 a3)∧W.cell? ⟨gc,k,none⟩=some (.string ct)) (first|(with_reducible exact⟨m0,m1,m2,m3,m4⟩)|(simp only[World.cell?_drew];with_reducible exact⟨k0,k1,k2,k3,k4⟩)|(simp only[World.cell?_drew,cO nb1,cO nf1];with_reducible exact⟨k0,k1,k2,k3,k4⟩)|(simp only[cO nbw,cO nfw];with_reducible exact⟨m0,m1,m2,m3,m4⟩)|(simp only[eB nb,eB nf];with_reducible exact⟨m0,m1,m2,m3,m4⟩)) (first
     |(go_at_call 98
       refine (HC.out _).mono ?_
       rintro er w1 ⟨rfl,hg1⟩
       have hfr1:Fr [] wr w1:=by first|exact (ar (Fr.refl [] wr)).trans (aK hg1)|exact (ar (aA wr _)).trans (aK hg1)|exact ((ar (Fr.refl [] wr)).alloc _).trans (aK hg1)
       have nbw:w.heap.size<w1.heap.size:=Nat.lt_of_lt_of_le nb1 hfr1.size
       have nfw:gc<w1.heap.size:=Nat.lt_of_lt_of_le nf1 hfr1.size
       have m0:=aE hfr1 k0
       have m1:=aE hfr1 k1
       have m2:=aE hfr1 k2
       have m3:=aE hfr1 k3
       have m4:=aE hfr1 k4
       have HF1:=af hfr1
       clear hfr1
       try (
        have hnew:w1.heap[wr.heap.size]?=some (.cells #[.string ByteArray.empty,.int .i64 0] 107 (0,0)):=(hg1.block wr.heap.size (by simp) (by simp)).trans (heap_alloc_new _ _)
        have n0:w1.cell? ⟨wr.heap.size,0,none⟩=some (.string ByteArray.empty):=by rw[cell_of_row _ _ _ _ _ _ hnew];rfl
        have n1:w1.cell? ⟨wr.heap.size,1,none⟩=some (.int .i64 0):=by rw[cell_of_row _ _ _ _ _ _ hnew];rfl
        have z0:=ai hnew 0
        have z1:=ai hnew 1
        have HNEW:=af hnew
        clear hnew)
       clear hg1))
    all_goals go_wp2_with fail
    all_goals go_meet
    all_goals first
     |exact⟨wr.heap.size,rfl,rfl,rfl,ah (ah HNEW.out _ _) _ _,Nat.le_refl _,EQ HF1.out _ _⟩
     |exact⟨w1.heap.size,rfl,rfl,rfl,heap_alloc_new w1 _,HF1.out.size,HF1.out.alloc _⟩
   case rest=>
   obtain⟨g,rfl,rfl,rfl,hge,hgl,hfr⟩:=hcut
   have HFC:=af (HFR.out.trans hfr)
   have HGC:=af (ae HW0.out.1 (bG HFC.out))
   have how:=aq HOW.out (bG hfr) (fun g hg=>by cases hg)
   clear k0 k1 k2 k3 k4 nb nb1 nf nf1 hfr HC HFR HGR HOW
   cases dok with
   |false=>
    have HN:Hid (OUT=none):=af (HS.out.1 rfl)
    clear how hge HS
    go_wp2_with fail
    go_ret3
    exact⟨HGC.out,by rw[HN.out];rfl⟩
   |true=>
    cases dh with
    |true=>
     have HN:Hid (iw (-1) s E (K.take (k+1))=some (q.1,true)):=af (HS.out.2.1 rfl rfl)
     have HO:=af how
     clear how hge HS
     go_wp2_with fail
     go_roundw
     case rel=>exact⟨k+1,(q.1,true),by omega,by go_num,rfl,HN.out,HO.out,HFC.out⟩
     case measure=>simp[intOf];omega
    |false=>
     obtain⟨x,hx,hxw⟩:=HS.out.2.2 rfl rfl
     have HN:=af hx
     have HCL:Hid (aP ((q.1++[x]).map iq)=aP (q.1.map iq)++[.string dc,.int .i64 dv]):=af (by rw[List.map_append,List.map_cons,List.map_nil,kq,hxw])
     have f0:wc.cell? ⟨g,0,none⟩=some (.string dc):=by rw[cell_of_row _ _ _ _ _ _ hge];rfl
     have f1:wc.cell? ⟨g,1,none⟩=some (.int .i64 dv):=by rw[cell_of_row _ _ _ _ _ _ hge];rfl
     have hsz:=HFC.out.size
     have HO:=af how
     obtain⟨XS,hXS⟩:∃ XS,XS=aP (q.1.map iq):=⟨_,rfl⟩
     rw[←hXS] at how HO HCL
     clear hge HS hx hxw hXS
     go_wp2_with (first|(at_builtin;refine wpList_append_own _ rfl (.tmp 43) (.tmp 45) 97 rfl W0.heap.size 107 i0 (.agg #[.string ByteArray.empty,.int .i64 0]) 2 24 Tryz.underlying97 hi0 hz0 hz1 hz2 rfl (by decide) _ _ _ rfl (how.alloc _) _ 1 1 [.string dc,.int .i64 dv] rfl rfl ?c1 ?c2 ?c3 ?c4 ?c5 ?_))
     case c1=>intro j u hj;exact bj hj
     case c2=>intro u hu;simp at hu;rcases hu with h|h <;> subst h <;> rfl
     case c3=>unfold maxLen;omega
     case c4=>omega
     case c5=>simp;omega
     ·intro v' w5 hown5 hg5 _
      have HG5:Hid (Fr [] W0 w5):=af (aK (aL (ab (bG HFC.out) _) hg5 (fun g hg=>(HO.out.lt g hg).1)))
      have HO5:Hid (w5.ownsRow W0.heap.size 107 2 v' (q.1++[x]).length (aP ((q.1++[x]).map iq))):=af (by
       rw[HCL.out,List.length_append]
       exact hown5)
      clear hown5 hg5 how f0 f1
      go_wp2_with fail
      go_roundw
      case rel=>exact⟨k+1,(q.1++[x],q.2),by omega,by go_num,rfl,HN.out,HO5.out,HG5.out⟩
      case measure=>simp[intOf];omega
  ·have ek:k=K.length:=by omega
   subst ek
   have HO:Hid (OUT=some q):=af (by rw[←HALL.out];exact HQ.out)
   clear hown hfr
   go_wp2_with fail
   go_ret3
   refine⟨HGR.out,?_⟩
   rw[HO.out]
   exact⟨_,rfl,bN HOW.out (Nat.le_of_lt HW0.out.2.2)⟩
theorem Au (Q:Value→eW)(y:Nat)(E:bm)(f:List Nat)(n fuel:Int)(w:World)(hE:bJ Q y E w f)(hW:kz E)(hf:du E.opn n=none):
  Calls Tryz.prog 34 #[.pointer (some ⟨y,0,none⟩),.int .i64 n,.int .i64 fuel] w fun e w'=>e=.returned (.tuple #[.int .i64 0,.int .i64 0,.int .i64 6])∧w'=w:=by
 obtain⟨rv,cv,kv,ov,cs,ps,f1,f2,⟨hb,rfl⟩,⟨f3,f4,_,⟨f5,f6,⟨hcr,_⟩,⟨f7,f8,hcom,⟨f9,f10,_,⟨f11,f12,⟨hor,_⟩,hses,_⟩,_⟩,_⟩,_⟩,_⟩,_⟩:=hE
 obtain⟨ao,mo,co,rfl⟩:=an hor
 have d4:w.cell? ⟨y,4,none⟩=some (.slice ao mo co):=by simp[World.cell?,hb]
 have HF:=af (dR y E.opn ps f12 n ao mo co w d4 hor hses (by have:=hW.opnLen;omega))
 have HFS:=af hf
 clear hb hses hcom d4 hor hf hcr
 go_enter Tryz.func34,Tryz.ntmps34
 go_wp2_with fail
 go_at_call 44
 refine HF.out.mono ?_
 rintro e w' ⟨⟨u,rfl,hans⟩,rfl⟩
 rcases hans with ⟨k,h1,h2,hn1,hn2,rfl⟩|⟨hn,rfl⟩
 ·exfalso
  have:=HFS.out
  rw[fX h1 hn1 hn2] at this
  cases this
 ·clear hn HF HFS
  go_wp2_with fail
  go_ret3
  exact⟨rfl,rfl⟩
theorem Br (Q:Value→eW)(y:Nat)(E:bm)(f:List Nat)(n fuel:Int)(S:br)(w:World)(hE:bJ Q y E w f)(hW:kz E)(hf:du E.opn n=some S)(hfu:fuel<0∨99<fuel):
  Calls Tryz.prog 34 #[.pointer (some ⟨y,0,none⟩),.int .i64 n,.int .i64 fuel] w fun e w'=>e=.returned (.tuple #[.int .i64 0,.int .i64 0,.int .i64 9])∧w'=w:=by
 obtain⟨rv,cv,kv,ov,cs,ps,f1,f2,⟨hb,rfl⟩,⟨f3,f4,_,⟨f5,f6,⟨hcr,_⟩,⟨f7,f8,hcom,⟨f9,f10,_,⟨f11,f12,⟨hor,_⟩,hses,_⟩,_⟩,_⟩,_⟩,_⟩,_⟩:=hE
 obtain⟨ao,mo,co,rfl⟩:=an hor
 have d4:w.cell? ⟨y,4,none⟩=some (.slice ao mo co):=by simp[World.cell?,hb]
 have HF:=af (dR y E.opn ps f12 n ao mo co w d4 hor hses (by have:=hW.opnLen;omega))
 have HFS:=af hf
 have HS:=af hses
 clear hb hses hcom d4 hor hf hcr
 go_enter Tryz.func34,Tryz.ntmps34
 go_wp2_with fail
 go_at_call 44
 refine HF.out.mono ?_
 rintro e w' ⟨⟨u,rfl,hans⟩,rfl⟩
 obtain⟨g1,rfl⟩:∃ g1,u=.pointer (some ⟨g1,0,none⟩):=by
  rcases hans with ⟨k',h1,h2,hn1,hn2,rfl⟩|⟨hn,_⟩
  ·obtain⟨_,hse,_⟩:=aB.get HS.out k' h2 h1
   obtain⟨g1,_,_,_,_,_,_,hp,_⟩:=hse.open
   exact⟨g1,hp⟩
  ·exfalso
   have:=HFS.out
   rw[iX hn] at this
   cases this
 clear hans HF HFS HS
 by_cases h0:fuel<0
 ·clear hfu
  go_wp2_with fail
  go_ret3
  exact⟨rfl,rfl⟩
 ·have h9:99<fuel:=by omega
  clear hfu
  go_wp2_with fail
  go_ret3
  exact⟨rfl,rfl⟩
def br.fire (S:br)(ky:ByteArray)(ws:List (Nat×Option Int)):br:={ S with fired:=S.fired++[ky],wr:=S.wr++ws.map iq }
abbrev vU:=Option (List (Nat×Option Int)×Bool)
def db (M:br→List In)(A:In→vU)(KX:br→In→ByteArray):Nat→br→(Int×Int)×br
 |0,S=>match M S with
  |[]=>((0,1),S)
  |_::_=>((0,2),S)
 |n+1,S=>match M S with
  |[]=>((0,1),S)
  |i::_=>match A i with
   |none=>((0,4),S)
   |some q=>if q.2 then ((1,3),S.fire (KX S i) q.1) else (((db M A KX n (S.fire (KX S i) q.1)).1.1+1,(db M A KX n (S.fire (KX S i) q.1)).1.2),(db M A KX n (S.fire (KX S i) q.1)).2)
theorem vI (a b:List Wr):aP (a++b)=aP a++aP b:=by simp[aP]
theorem vN (l:List Wr):(aP l).length=l.length*2:=by
 induction l with
 |nil=>rfl
 |cons p l ih=>
  show (aP l).length+1+1=_
  rw[ih,List.length_cons]
  omega
theorem oK (l:List Wr):∀ u∈aP l,u.oneCell'=true:=by
 intro u hu
 unfold aP at hu
 obtain⟨p,_,hp⟩:=List.mem_flatMap.mp hu
 simp at hp
 rcases hp with h|h <;> subst h <;> rfl
theorem Fr.trans2 {S T:List Nat}{a b c:World}(h:Fr T a b)(k:Fr S b c)(hs:∀ g∈S,g∈T∨a.heap.size≤g):Fr T a c:=
 ⟨k.os.trans h.os,k.tape.trans h.tape,k.output.trans h.output,Nat.le_trans h.size k.size,fun i hi hn=>(k.block i (Nat.lt_of_lt_of_le hi h.size) (fun e=>by rcases hs i e with q|q;exact hn q;omega)).trans (h.block i hi hn)⟩
theorem qT.fr {g1:Nat}{wv fv:Value}{S:br}{w w':World}{T:List Nat}(h:qT g1 wv fv S w)(hf:Fr T w w')(ht:∀ x∈gK g1 wv fv,x∉T):qT g1 wv fv S w':=
 ⟨(hf.block g1 (lt_of_block h.blk) (ht g1 (by simp[gK]))).trans h.blk,(bn.framed _ _ _ _ _ ⟨h.wr,rfl⟩ hf (fun x hx=>ht x (by simp[gK,hx]))).1,(bn.framed _ _ _ _ _ ⟨h.fd,rfl⟩ hf (fun x hx=>ht x (by simp[gK,hx]))).1⟩
theorem qT.quiet {g1:Nat}{wv fv:Value}{S:br}{w w':World}(h:qT g1 wv fv S w)(hf:Fr [] w w'):qT g1 wv fv S w':=h.fr hf (by simp)
theorem Bo {w:World}{g:Nat}{x0 x1 x2 x3 u:Value}{t:TypeId}(h:w.heap[g]?=some (.cells #[x0,x1,x2,x3] t (0,0))):(w.setCell ⟨g,3,none⟩ u).heap[g]?=some (.cells #[x0,x1,x2,u] t (0,0)):=by
 obtain⟨hl,e⟩:=Array.getElem?_eq_some_iff.mp h
 simp[World.setCell,hl,Array.getElem_modify,e]
theorem sq {g1:Nat}{wv fv v':Value}{S:br}{ky:ByteArray}{w w3:World}(h:qT g1 wv fv S w)(hv:w3.ownsRow 0 9 1 v' (S.fired.length+1) (S.fired.map Value.string++[.string ky]))(hg:Fr fv.ownBlock.toList w w3)(ha:v'.ownBlock=fv.ownBlock∨∃ b,v'.ownBlock=some b∧w.heap.size≤b):
  qT g1 wv v' { S with fired:=S.fired++[ky] } (w3.setCell ⟨g1,3,none⟩ v')∧Fr (gK g1 wv fv) w (w3.setCell ⟨g1,3,none⟩ v')∧∀ x∈gK g1 wv v',x∈gK g1 wv fv∨w.heap.size≤x:=by
 have hnd:=h.nodup
 have hb3:w3.heap[g1]?=some (.cells #[.int .i64 S.num,.int .i64 S.snap,wv,fv] 100 (0,0)):=(hg.block g1 (lt_of_block h.blk) (fun e=>by
  unfold gK at hnd
  simp only[List.singleton_append,List.nodup_cons,List.mem_append] at hnd
  exact hnd.1 (.inr e))).trans h.blk
 have hw3:w3.ownsRow 0 107 2 wv S.wr.length (aP S.wr):=(bn.framed _ _ _ _ _ ⟨h.wr,rfl⟩ hg (fun x hx e=>by
  unfold gK at hnd
  simp only[List.singleton_append,List.nodup_cons,List.nodup_append] at hnd
  exact hnd.2.2.2 x hx x e rfl)).1
 refine⟨⟨Bo hb3,ownsRow_setCell_other hw3 (aU hw3 hb3 (by decide)) _,?_⟩,?_,fun x hx=>?_⟩
 ·simp only[List.length_append,List.length_cons,List.length_nil,List.map_append,List.map_cons,List.map_nil]
  exact ownsRow_setCell_other hv (aU hv hb3 (by decide)) _
 ·exact (hg.mono (fun x hx=>.inl (by simp[gK,hx]))).set (.inl (by simp[gK])) _
 ·simp only[gK,List.singleton_append,List.mem_cons,List.mem_append] at hx ⊢
  rcases hx with hx|hx|hx
  ·exact .inl (.inl hx)
  ·exact .inl (.inr (.inl hx))
  ·rcases ha with e|⟨b,e,hb⟩
   ·rw[e] at hx;exact .inl (.inr (.inr hx))
   ·rw[e] at hx
    simp at hx
    exact .inr (by omega)
theorem kR {g1:Nat}{wv fv v':Value}{S:br}{ws:List Wr}{w w3:World}(h:qT g1 wv fv S w)(hv:w3.ownsRow 0 107 2 v' (S.wr.length+ws.length) (aP S.wr++aP ws))(hg:Fr wv.ownBlock.toList w w3)(ha:v'.ownBlock=wv.ownBlock∨∃ b,v'.ownBlock=some b∧w.heap.size≤b):
  qT g1 v' fv { S with wr:=S.wr++ws } (w3.setCell ⟨g1,2,none⟩ v')∧Fr (gK g1 wv fv) w (w3.setCell ⟨g1,2,none⟩ v')∧∀ x∈gK g1 v' fv,x∈gK g1 wv fv∨w.heap.size≤x:=by
 have hnd:=h.nodup
 have hb3:w3.heap[g1]?=some (.cells #[.int .i64 S.num,.int .i64 S.snap,wv,fv] 100 (0,0)):=(hg.block g1 (lt_of_block h.blk) (fun e=>by
  unfold gK at hnd
  simp only[List.singleton_append,List.nodup_cons,List.mem_append] at hnd
  exact hnd.1 (.inl e))).trans h.blk
 have hw3:w3.ownsRow 0 9 1 fv S.fired.length (S.fired.map Value.string):=(bn.framed _ _ _ _ _ ⟨h.fd,rfl⟩ hg (fun x hx e=>by
  unfold gK at hnd
  simp only[List.singleton_append,List.nodup_cons,List.nodup_append] at hnd
  exact hnd.2.2.2 x e x hx rfl)).1
 refine⟨⟨mE hb3,?_,ownsRow_setCell_other hw3 (aU hw3 hb3 (by decide)) _⟩,?_,fun x hx=>?_⟩
 ·simp only[List.length_append,vI]
  exact ownsRow_setCell_other hv (aU hv hb3 (by decide)) _
 ·exact (hg.mono (fun x hx=>.inl (by simp[gK,hx]))).set (.inl (by simp[gK])) _
 ·simp only[gK,List.singleton_append,List.mem_cons,List.mem_append] at hx ⊢
  rcases hx with hx|hx|hx
  ·exact .inl (.inl hx)
  ·rcases ha with e|⟨b,e,hb⟩
   ·rw[e] at hx;exact .inl (.inr (.inl hx))
   ·rw[e] at hx
    simp at hx
    exact .inr (by omega)
  ·exact .inl (.inr (.inr hx))
theorem Bt {M:br→List In}{A:In→vU}{KX:br→In→ByteArray}{S:br}(h:M S=[]):∀ n,db M A KX n S=((0,1),S)
 |0=>by unfold db;rw[h]
 |n+1=>by unfold db;rw[h]
theorem xv {M:br→List In}{A:In→vU}{KX:br→In→ByteArray}{S:br}{i:In}{l:List In}(h:M S=i::l):db M A KX 0 S=((0,2),S):=by unfold db;rw[h]
theorem zj {M:br→List In}{A:In→vU}{KX:br→In→ByteArray}{S:br}{i:In}{l:List In}(h:M S=i::l)(ha:A i=none)(n:Nat):db M A KX (n+1) S=((0,4),S):=by unfold db;rw[h];simp only[];rw[ha]
theorem pN {M:br→List In}{A:In→vU}{KX:br→In→ByteArray}{S:br}{i:In}{l:List In}{q:List (Nat×Option Int)×Bool}(h:M S=i::l)(ha:A i=some q)(hq:q.2=true)(n:Nat):db M A KX (n+1) S=((1,3),S.fire (KX S i) q.1):=by unfold db;rw[h];simp only[];rw[ha];simp only[];rw[if_pos hq]
theorem uQ {M:br→List In}{A:In→vU}{KX:br→In→ByteArray}{S:br}{i:In}{l:List In}{q:List (Nat×Option Int)×Bool}(h:M S=i::l)(ha:A i=some q)(hq:q.2=false)(n:Nat):db M A KX (n+1) S=(((db M A KX n (S.fire (KX S i) q.1)).1.1+1,(db M A KX n (S.fire (KX S i) q.1)).1.2),(db M A KX n (S.fire (KX S i) q.1)).2):=by
 conv=>lhs;unfold db
 rw[h]
 simp only[]
 rw[ha]
 simp only[]
 rw[if_neg (by rw[hq];simp)]
end Go.Proofs.YthlhbjnkohinmaaGreat
