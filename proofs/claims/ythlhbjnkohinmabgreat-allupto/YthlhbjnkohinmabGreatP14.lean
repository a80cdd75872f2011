import Derived.Test.YthlhbjnkohinmabGreatP05
import Derived.Test.YthlhbjnkohinmabGreatP13
import Derived.Test.YthlhbjnkohinmabGreatP11
import Derived.Test.YthlhbjnkohinmabGreatP09
import Derived.Test.YthlhbjnkohinmabGreatP12
import Derived.Test.YthlhbjnkohinmabGreatP08
namespace Go.Proofs.YthlhbjnkohinmabGreat
set_option maxRecDepth 100000
set_option maxHeartbeats 8000000
open Go.RowKit
def s0:ByteArray:=⟨#[53,58,97,120,121,62,43,98,120,121,59]⟩
theorem xl (X:ap):(a8 X).2.hist=X.hist:=by unfold a8;cases bd X 0 <;> rfl
theorem Ad (X:ap)(n:Int)(s:ByteArray):(cj X n s).2.hist=X.hist:=by
 unfold cj
 cases aM X n with
 |none=>rfl
 |some k=>cases eU s <;> rfl
theorem uK (X:ap)(n:Int)(s:ByteArray):(aX X n s).2.hist=X.hist:=by
 unfold aX
 cases aM X n with
 |none=>rfl
 |some k=>cases eE s <;> rfl
theorem vL (X:ap)(n:Int):(aY X n).2.hist=X.hist:=by
 unfold aY
 cases aM X n <;> rfl
theorem BT (x:Nat)(X:ap)(f:List Nat)(w:World)(h:aV x X w f)(hn:f.Nodup)(ho:0≤X.opened∧X.opened<9223372036854775807):
  Calls Tryz.prog 14 #[.pointer (some ⟨x,0,none⟩)] w fun e w'=>e=.returned (.tuple #[.int .i64 (a8 X).1.1,.int .i64 (a8 X).1.2])∧bP (aV x (a8 X).2) f w w':=by
 obtain⟨kv,hk⟩:=h
 refine (BF x X kv w hk.1 ho).mono ?_
 rintro e w' ⟨rfl,hp⟩
 exact⟨rfl,hp.to hk hn (xl X)⟩
theorem E9 (x:Nat)(X:ap)(f:List Nat)(n:Int)(s:ByteArray)(w:World)(h:aV x X w f)(hn:f.Nodup)(hs63:s.size<9223372036854775808)(hm:∀ k,aM X n=some k→(X.ses k).more):
  Calls Tryz.prog 16 #[.pointer (some ⟨x,0,none⟩),.int .i64 n,.string s] w fun e w'=>e=.returned (.int .i64 (cj X n s).1)∧bP (aV x (cj X n s).2) f w w':=by
 obtain⟨kv,hk⟩:=h
 refine (Ca x X kv n s w hk.1 hs63 hm).mono ?_
 rintro e w' ⟨rfl,hp⟩
 exact⟨rfl,hp.to hk hn (Ad X n s)⟩
theorem zt (x:Nat)(X:ap)(f:List Nat)(n:Int)(s:ByteArray)(w:World)(h:aV x X w f)(hn:f.Nodup)(hs63:s.size<9223372036854775808)(hm:∀ k,aM X n=some k→(X.ses k).more):
  Calls Tryz.prog 18 #[.pointer (some ⟨x,0,none⟩),.int .i64 n,.string s] w fun e w'=>e=.returned (.int .i64 (aX X n s).1)∧bP (aV x (aX X n s).2) f w w':=by
 obtain⟨kv,hk⟩:=h
 refine (yk x X kv n s w hk.1 hs63 hm).mono ?_
 rintro e w' ⟨rfl,hp⟩
 exact⟨rfl,hp.to hk hn (uK X n s)⟩
theorem BJ (x:Nat)(X:ap)(f:List Nat)(n:Int)(w:World)(h:aV x X w f)(hn:f.Nodup):
  Calls Tryz.prog 22 #[.pointer (some ⟨x,0,none⟩),.int .i64 n] w fun e w'=>e=.returned (.int .i64 (aY X n).1)∧bP (aV x (aY X n).2) f w w':=by
 obtain⟨kv,hk⟩:=h
 refine (xv x X kv n w hk.1).mono ?_
 rintro e w' ⟨rfl,hp⟩
 exact⟨rfl,hp.to hk hn (vL X n)⟩
theorem Di (x:Nat)(X:ap)(f:List Nat)(n:Int)(w:World)(h:aV x X w f)(hl:∀ c,c<60→(X.hist c).length≤9223372036854775807)(hd:∀ k,aM X n=some k→EC (jk X k)):
  Calls Tryz.prog 20 #[.pointer (some ⟨x,0,none⟩),.int .i64 n] w fun e w'=>e=.returned (.tuple #[.string (e9 X n).1,.int .i64 (e9 X n).2])∧Fr [] w w':=by
 obtain⟨kv,hk⟩:=h
 refine (A4 x X kv n w hk.1 hk.rows hl hd).mono ?_
 rintro e w' ⟨rfl,hg⟩
 exact⟨rfl,aI hg⟩
def Gl:ByteArray:=⟨#[97,51,55]⟩
def W1 (r:Ff):ap:=(a8 (X0 r)).2
def W2 (r:Ff):ap:=(cj (W1 r) 1 Gl).2
def W3 (r:Ff):ap:=(jD (W2 r) 1).2
abbrev fu:=Nat→Option Int
def jE (e:fu)(t d:Int):Option fu:=
 if t=95 then some e
 else if bM t then (if t - 48=d then some e else none)
 else match e (t - 119).toNat with
  |none=>some (cI e (t - 119).toNat (some d))
  |some v=>if v=d then some e else none
def gd (e:fu)(c t1 t2:Int)(q:aw):Option fu:=
 if c - 97=(q.1:Int) / 10 then (jE e t1 ((q.1:Int) % 10)).bind fun e1=>jE e1 t2 q.2.1 else none
def fH (z:Int)(e:fu)(t:Int):Int:=if bM t then t - 48 else (e (t - 119).toNat).getD z
def iB (g a b:Int):Bool:=if g=60 then decide (a<b) else if g=61 then decide (a=b) else decide (a≠b)
structure In where
 rule:Nat
 facts:List aw
 env:fu
def In.start (r:Nat):In:=⟨r,[],fun _=>none⟩
def iE (F:List aw)(c t1 t2:Int)(i:In):List In:=F.filterMap fun q=>(gd i.env c t1 t2 q).map fun e=>⟨i.rule,i.facts++[q],e⟩
def fT (F:List aw)(e:fu)(c t1 t2:Int):Bool:=F.all fun q=>(gd e c t1 t2 q).isNone
def kK (z:Int)(s:ByteArray)(F:List aw)(l:List In)(p:Nat):List In:=
 if bt s p=33 then l.filter fun i=>fT F i.env (bt s (p+1)) (bt s (p+2)) (bt s (p+3))
 else if aU (bt s p) then l.flatMap (iE F (bt s p) (bt s (p+1)) (bt s (p+2)))
 else l.filter fun i=>iB (bt s (p+1)) (fH z i.env (bt s p)) (fH z i.env (bt s (p+2)))
def dz (z:Int)(s:ByteArray)(F:List aw)(r:Nat)(L:List Nat):List In:=L.foldl (kK z s F) [In.start r]
def bz (z:Int)(s:ByteArray)(F:List aw)(R:List ay)(n:Nat):List In:=(List.range n).flatMap fun r=>dz z s F r (R.getD r (0,[],[])).2.1
theorem fX (z:Int)(s:ByteArray)(F:List aw)(R:List ay)(n:Nat):bz z s F R (n+1)=bz z s F R n++dz z s F n (R.getD n (0,[],[])).2.1:=by
 unfold bz
 rw[List.range_succ,List.flatMap_append]
 simp
theorem lF (F:List aw)(c t1 t2:Int)(i:In):(iE F c t1 t2 i).length≤F.length:=List.length_filterMap_le _ _
theorem ic {α β:Type}{f:α→List β}{m:Nat}(h:∀ a,(f a).length≤m):∀ l:List α,(l.flatMap f).length≤l.length*m
 |[]=>by simp
 |a::l=>by
  have:=ic h l
  have h2:=h a
  rw[List.flatMap_cons,List.length_append,List.length_cons,Nat.add_mul]
  omega
theorem Ew (z:Int)(s:ByteArray)(F:List aw)(hF:F.length≤60)(l:List In)(p:Nat):(kK z s F l p).length≤l.length*60:=by
 unfold kK
 split
 ·have:=List.length_filter_le (fun i:In=>fT F i.env (bt s (p+1)) (bt s (p+2)) (bt s (p+3))) l
  omega
 ·split
  ·exact ic (fun i=>Nat.le_trans (lF F _ _ _ i) hF) l
  ·have:=List.length_filter_le (fun i:In=>iB (bt s (p+1)) (fH z i.env (bt s p)) (fH z i.env (bt s (p+2)))) l
   omega
structure qb (F:List aw)(i:In):Prop where
 facts:∀ q∈i.facts,q∈F
 env:∀ n v,i.env n=some v→0≤v∧v≤9
def rt (F:List aw):Prop:=∀ q∈F,q.1<60∧0≤q.2.1∧q.2.1≤9
theorem xa {e e':fu}{t d:Int}(h:jE e t d=some e')(he:∀ n v,e n=some v→0≤v∧v≤9)(hd:0≤d∧d≤9):∀ n v,e' n=some v→0≤v∧v≤9:=by
 unfold jE at h
 split at h
 ·cases h;exact he
 ·split at h
  ·split at h
   ·cases h;exact he
   ·cases h
  ·split at h
   ·cases h
    intro n v hv
    unfold cI at hv
    split at hv
    ·cases hv;exact hd
    ·exact he n v hv
   ·split at h
    ·cases h;exact he
    ·cases h
theorem FA {e e':fu}{c t1 t2:Int}{q:aw}(h:gd e c t1 t2 q=some e')(he:∀ n v,e n=some v→0≤v∧v≤9)(hq:q.1<60∧0≤q.2.1∧q.2.1≤9):∀ n v,e' n=some v→0≤v∧v≤9:=by
 unfold gd at h
 split at h
 ·cases h1:jE e t1 ((q.1:Int) % 10) with
  |none=>rw[h1] at h;cases h
  |some e1=>
   rw[h1] at h
   exact xa h (xa h1 he (by omega)) hq.2
 ·cases h
theorem Gp {F:List aw}(hF:rt F){c t1 t2:Int}{i:In}(hi:qb F i):∀ j∈iE F c t1 t2 i,qb F j:=by
 intro j hj
 unfold iE at hj
 obtain⟨q,hq,hm⟩:=List.mem_filterMap.mp hj
 cases hg:gd i.env c t1 t2 q with
 |none=>rw[hg] at hm;cases hm
 |some e=>
  rw[hg] at hm
  simp only[Option.map_some,Option.some.injEq] at hm
  rw[←hm]
  refine⟨fun x hx=>?_,FA hg hi.env (hF q hq)⟩
  rcases List.mem_append.mp hx with hx|hx
  ·exact hi.facts x hx
  ·simp at hx;rw[hx];exact hq
theorem CZ {z:Int}{s:ByteArray}{F:List aw}(hF:rt F){l:List In}(hl:∀ i∈l,qb F i)(p:Nat):∀ j∈kK z s F l p,qb F j:=by
 intro j hj
 unfold kK at hj
 split at hj
 ·exact hl j (List.mem_filter.mp hj).1
 ·split at hj
  ·obtain⟨i,hi,hm⟩:=List.mem_flatMap.mp hj
   exact Gp hF (hl i hi) j hm
  ·exact hl j (List.mem_filter.mp hj).1
theorem vU (F:List aw)(r:Nat):qb F (In.start r):=⟨(by intro q hq;cases hq),(by intro n v hv;cases hv)⟩
variable {α:Type}
def fM (lt:α→α→Bool)(x:α):List α→List α
 |[]=>[x]
 |y::r=>if lt x y then x::y::r else y::fM lt x r
def bK (lt:α→α→Bool)(l:List α):List α:=l.foldl (fun out x=>fM lt x out) []
def kJ (lt:α→α→Bool):List α→List α→List α
 |[],B=>B
 |a::A,[]=>a::A
 |a::A,b::B=>if lt b a then b::kJ lt (a::A) B else a::kJ lt A (b::B)
structure xe (lt:α→α→Bool):Prop where
 trans:∀ {a b c},lt a b=true→lt b c=true→lt a c=true
 neg:∀ {a b c},lt a b=false→lt b c=false→lt a c=false
 irr:∀ a,lt a a=false
theorem pc (lt:α→α→Bool)(A:List α):kJ lt A []=A:=by cases A <;> simp[kJ]
theorem za (lt:α→α→Bool)(x:α):∀ A,kJ lt A [x]=fM lt x A
 |[]=>by simp[kJ,fM]
 |a::A=>by
  rw[kJ,fM]
  by_cases h:lt x a=true
  ·rw[if_pos h,if_pos h,pc]
  ·rw[if_neg h,if_neg h,za lt x A]
theorem sT {lt:α→α→Bool}(hw:xe lt)(x:α):∀ A B,kJ lt A (fM lt x B)=fM lt x (kJ lt A B)
 |[],B=>by simp[kJ]
 |a::A,[]=>by rw[pc];exact za lt x (a::A)
 |a::A,b::B=>by
  have i1:=sT hw x (a::A) B
  have i2:=sT hw x A (b::B)
  have e1:fM lt x (b::B)=if lt x b then x::b::B else b::fM lt x B:=rfl
  have e2:kJ lt (a::A) (b::B)=if lt b a then b::kJ lt (a::A) B else a::kJ lt A (b::B):=by rw[kJ]
  by_cases h1:lt b a=true
  ·rw[e2,if_pos h1]
   by_cases h2:lt x b=true
   ·rw[e1,if_pos h2,fM,if_pos h2,kJ,if_pos (hw.trans h2 h1),e2,if_pos h1]
   ·rw[e1,if_neg h2,fM,if_neg h2,kJ,if_pos h1,i1]
  ·rw[e2,if_neg h1]
   by_cases h2:lt x b=true
   ·rw[e1,if_pos h2,fM]
    rw[kJ]
    by_cases h3:lt x a=true
    ·rw[if_pos h3,if_pos h3,e2,if_neg h1]
    ·rw[if_neg h3,if_neg h3]
     rw[e1,if_pos h2] at i2
     rw[i2]
   ·have h3:¬lt x a=true:=by
     have:=hw.neg (a:=x) (b:=b) (c:=a) (by simpa using h2) (by simpa using h1)
     simp[this]
    rw[e1,if_neg h2] at i2 ⊢
    rw[fM,if_neg h3,kJ,if_neg h1,i2]
theorem Aq {lt:α→α→Bool}(hw:xe lt)(l1 l2:List α):kJ lt (bK lt l1) (bK lt l2)=bK lt (l1++l2):=by
 have key:∀ (n:Nat) (l2:List α),l2.length=n→kJ lt (bK lt l1) (bK lt l2)=bK lt (l1++l2):=by
  intro n
  induction n with
  |zero=>
   intro l2 h
   have:l2=[]:=List.length_eq_zero_iff.mp h
   subst this
   simp[bK,pc]
  |succ n ih=>
   intro l2 h
   rcases List.eq_nil_or_concat l2 with rfl|⟨l,x,rfl⟩
   ·simp at h
   ·have hl:l.length=n:=by simpa using h
    have e1:bK lt (l.concat x)=fM lt x (bK lt l):=by simp[bK]
    have e2:bK lt (l1++l.concat x)=fM lt x (bK lt (l1++l)):=by
     rw[List.concat_eq_append,←List.append_assoc]
     simp[bK]
    rw[e1,e2,sT hw,ih l hl]
 exact key _ l2 rfl
def lU (lt:α→α→Bool)(l:List α):Prop:=l.Pairwise fun a b=>lt b a=false
theorem pJ {lt:α→α→Bool}{x z:α}:∀ {l:List α},z∈fM lt x l↔z=x∨z∈l
 |[]=>by simp[fM]
 |y::r=>by
  rw[fM]
  split
  ·simp
  ·simp[pJ (l:=r)]
   constructor
   ·rintro (h|h|h) <;> simp[h]
   ·rintro (h|h|h) <;> simp[h]
theorem oE {lt:α→α→Bool}(hw:xe lt)(x:α):∀ {l:List α},lU lt l→lU lt (fM lt x l)
 |[],_=>by simp[fM,lU]
 |y::r,h=>by
  have h':=List.pairwise_cons.mp h
  rw[fM]
  by_cases e:lt x y=true
  ·rw[if_pos e]
   refine List.pairwise_cons.mpr ⟨fun z hz=>?_,h⟩
   cases hzx:lt z x with
   |false=>rfl
   |true=>
    have:=hw.trans hzx e
    rcases List.mem_cons.mp hz with rfl|hz
    ·rw[hw.irr] at this;cases this
    ·rw[h'.1 z hz] at this;cases this
  ·rw[if_neg e]
   refine List.pairwise_cons.mpr ⟨fun z hz=>?_,oE hw x h'.2⟩
   rcases pJ.mp hz with rfl|hz
   ·simpa using e
   ·exact h'.1 z hz
theorem zj {lt:α→α→Bool}(hw:xe lt)(x:α):∀ (O:List α) (k:Nat),k≤O.length→lU lt O→(∀ b∈O.drop k,lt x b=true)→(k=0∨∃ h:k - 1<O.length,lt x O[k - 1]=false)→fM lt x O=O.take k++x::O.drop k
 |[],k,hk,_,_,_=>by
  have:k=0:=by simpa using hk
  subst this
  rfl
 |o::r,0,_,_,h1,_=>by
  have:=h1 o (by simp)
  simp[fM,this]
 |o::r,m+1,hk,hs,h1,h2=>by
  have hs':=List.pairwise_cons.mp hs
  have hxo:lt x o=false:=by
   rcases h2 with h|⟨h,e⟩
   ·omega
   ·cases m with
    |zero=>simpa using e
    |succ m=>
     have hm:m<r.length:=by simp at h;omega
     have e':lt x r[m]=false:=by simpa using e
     exact hw.neg e' (hs'.1 r[m] (List.getElem_mem hm))
  rw[fM,if_neg (by simp[hxo])]
  rw[zj hw x r m (by simpa using hk) hs'.2 (fun b hb=>h1 b (by simpa using hb)) ?_]
  ·simp
  ·cases m with
   |zero=>exact .inl rfl
   |succ m=>
    right
    rcases h2 with h|⟨h,e⟩
    ·omega
    ·have hm:m<r.length:=by simp at h;omega
     exact⟨by simpa using hm,by simpa using e⟩
theorem qe {lt:α→α→Bool}(l:List α)(x:α):bK lt (l++[x])=fM lt x (bK lt l):=by simp[bK]
theorem sQ {lt:α→α→Bool}(hw:xe lt)(l:List α):lU lt (bK lt l):=by
 have key:∀ (l:List α) (out:List α),lU lt out→lU lt (l.foldl (fun out x=>fM lt x out) out):=by
  intro l
  induction l with
  |nil=>intro out h;exact h
  |cons x l ih=>intro out h;exact ih _ (oE hw x h)
 exact key l [] List.Pairwise.nil
theorem lp {lt:α→α→Bool}{z:α}:∀ {l:List α},z∈bK lt l↔z∈l:=by
 have key:∀ (l out:List α),z∈l.foldl (fun out x=>fM lt x out) out↔z∈l∨z∈out:=by
  intro l
  induction l with
  |nil=>intro out;simp
  |cons x l ih=>
   intro out
   rw[List.foldl_cons,ih,pJ]
   simp
   constructor
   ·rintro (h|h|h) <;> simp[h]
   ·rintro ((h|h)|h) <;> simp[h]
 intro l
 have:=key l []
 simpa [bK] using this
theorem vT {lt:α→α→Bool}(x:α):∀ l:List α,(fM lt x l).length=l.length+1
 |[]=>rfl
 |y::r=>by
  rw[fM]
  split
  ·simp
  ·simp[vT x r]
theorem dQ {lt:α→α→Bool}(l:List α):(bK lt l).length=l.length:=by
 have key:∀ (l out:List α),(l.foldl (fun out x=>fM lt x out) out).length=l.length+out.length:=by
  intro l
  induction l with
  |nil=>intro out;simp
  |cons x l ih=>intro out;rw[List.foldl_cons,ih,vT];simp;omega
 have:=key l []
 simpa [bK] using this
theorem bn {w:World}{o:Obj}{n:Nat}(h:n=w.heap.size):(w.alloc o).heap[n]?=some o:=by subst h;exact heap_alloc_new w o
def dI (e:fu)(n:Nat):Int:=(e n).getD 0
def dB (e:fu)(n:Nat):Bool:=(e n).isSome
def jr (e:fu):Value:=.agg #[.bool (dB e 0),.bool (dB e 1),.bool (dB e 2),.bool (dB e 3),.int .i64 (dI e 0),.int .i64 (dI e 1),.int .i64 (dI e 2),.int .i64 (dI e 3)]
def hU (w w':World):Prop:=∃ o1 o2 o3 n,w'=(((w.alloc o1).alloc o2).alloc o3).drewN n
theorem FF (e:fu)(n:Nat)(d:Int)(j:Nat):dI (cI e n (some d)) j=if j=n then d else dI e j:=by
 unfold dI cI
 split <;> rfl
theorem F0 (e:fu)(n:Nat)(d:Int)(j:Nat):dB (cI e n (some d)) j=if j=n then true else dB e j:=by
 unfold dB cI
 split <;> rfl
theorem vJ (b0 b1 b2 b3:Bool)(d0 d1 d2 d3 v x:Int)(w:World):
  Calls Tryz.prog 145 #[.agg #[.bool b0,.bool b1,.bool b2,.bool b3,.int .i64 d0,.int .i64 d1,.int .i64 d2,.int .i64 d3],.agg #[.int .i64 0,.int .i64 v],.int .i64 x] w fun r w'=>r=.returned (.tuple #[.agg #[.bool b0,.bool b1,.bool b2,.bool b3,.int .i64 d0,.int .i64 d1,.int .i64 d2,.int .i64 d3],.bool true])∧hU w w':=by
 go_enter Tryz.func145,Tryz.ntmps145
 go_wp2_with fail
 refine bodyPost_ret (aO Tryz.results145 rfl (bn (by simp)) Tryz.underlying173 rfl (by kernel_rfl) rfl) rfl ⟨rfl,?_⟩
 exact⟨_,_,_,0,rfl⟩
theorem AG (b0 b1 b2 b3:Bool)(d0 d1 d2 d3 v x:Int)(w:World):
  Calls Tryz.prog 145 #[.agg #[.bool b0,.bool b1,.bool b2,.bool b3,.int .i64 d0,.int .i64 d1,.int .i64 d2,.int .i64 d3],.agg #[.int .i64 1,.int .i64 v],.int .i64 x] w fun r w'=>r=.returned (.tuple #[.agg #[.bool b0,.bool b1,.bool b2,.bool b3,.int .i64 d0,.int .i64 d1,.int .i64 d2,.int .i64 d3],.bool (v==x)])∧hU w w':=by
 go_enter Tryz.func145,Tryz.ntmps145
 go_wp2_with fail
 go_region
 all_goals go_wp2_with fail
 all_goals (refine bodyPost_ret (aO Tryz.results145 rfl (bn (by simp)) Tryz.underlying173 rfl (by kernel_rfl) rfl) rfl ⟨rfl,?_⟩)
 all_goals first
  |exact⟨_,_,_,0,rfl⟩
  |exact⟨_,_,_,1,rfl⟩
theorem xZ (b0 b1 b2 b3:Bool)(d0 d1 d2 d3 x:Int)(w:World)(hb:b0=true):
  Calls Tryz.prog 145 #[.agg #[.bool b0,.bool b1,.bool b2,.bool b3,.int .i64 d0,.int .i64 d1,.int .i64 d2,.int .i64 d3],.agg #[.int .i64 2,.int .i64 0],.int .i64 x] w fun r w'=>r=.returned (.tuple #[.agg #[.bool b0,.bool b1,.bool b2,.bool b3,.int .i64 d0,.int .i64 d1,.int .i64 d2,.int .i64 d3],.bool (d0==x)])∧hU w w':=by
 subst hb
 go_enter Tryz.func145,Tryz.ntmps145
 go_wp2_with fail
 go_region
 all_goals go_wp2_with fail
 all_goals (refine bodyPost_ret (aO Tryz.results145 rfl (bn (by simp)) Tryz.underlying173 rfl (by kernel_rfl) rfl) rfl ⟨rfl,?_⟩)
 all_goals first
  |exact⟨_,_,_,0,rfl⟩
  |exact⟨_,_,_,1,rfl⟩
theorem ym (b0 b1 b2 b3:Bool)(d0 d1 d2 d3 x:Int)(w:World)(hb:b0=false):
  Calls Tryz.prog 145 #[.agg #[.bool b0,.bool b1,.bool b2,.bool b3,.int .i64 d0,.int .i64 d1,.int .i64 d2,.int .i64 d3],.agg #[.int .i64 2,.int .i64 0],.int .i64 x] w fun r w'=>r=.returned (.tuple #[.agg #[.bool true,.bool b1,.bool b2,.bool b3,.int .i64 x,.int .i64 d1,.int .i64 d2,.int .i64 d3],.bool true])∧hU w w':=by
 subst hb
 go_enter Tryz.func145,Tryz.ntmps145
 go_wp2_with fail
 refine bodyPost_ret (aO Tryz.results145 rfl (bn (by simp)) Tryz.underlying173 rfl (by kernel_rfl) rfl) rfl ⟨rfl,?_⟩
 exact⟨_,_,_,0,rfl⟩
theorem wZ (b0 b1 b2 b3:Bool)(d0 d1 d2 d3 x:Int)(w:World)(hb:b1=true):
  Calls Tryz.prog 145 #[.agg #[.bool b0,.bool b1,.bool b2,.bool b3,.int .i64 d0,.int .i64 d1,.int .i64 d2,.int .i64 d3],.agg #[.int .i64 2,.int .i64 1],.int .i64 x] w fun r w'=>r=.returned (.tuple #[.agg #[.bool b0,.bool b1,.bool b2,.bool b3,.int .i64 d0,.int .i64 d1,.int .i64 d2,.int .i64 d3],.bool (d1==x)])∧hU w w':=by
 subst hb
 go_enter Tryz.func145,Tryz.ntmps145
 go_wp2_with fail
 go_region
 all_goals go_wp2_with fail
 all_goals (refine bodyPost_ret (aO Tryz.results145 rfl (bn (by simp)) Tryz.underlying173 rfl (by kernel_rfl) rfl) rfl ⟨rfl,?_⟩)
 all_goals first
  |exact⟨_,_,_,0,rfl⟩
  |exact⟨_,_,_,1,rfl⟩
theorem wL (b0 b1 b2 b3:Bool)(d0 d1 d2 d3 x:Int)(w:World)(hb:b1=false):
  Calls Tryz.prog 145 #[.agg #[.bool b0,.bool b1,.bool b2,.bool b3,.int .i64 d0,.int .i64 d1,.int .i64 d2,.int .i64 d3],.agg #[.int .i64 2,.int .i64 1],.int .i64 x] w fun r w'=>r=.returned (.tuple #[.agg #[.bool b0,.bool true,.bool b2,.bool b3,.int .i64 d0,.int .i64 x,.int .i64 d2,.int .i64 d3],.bool true])∧hU w w':=by
 subst hb
 go_enter Tryz.func145,Tryz.ntmps145
 go_wp2_with fail
 refine bodyPost_ret (aO Tryz.results145 rfl (bn (by simp)) Tryz.underlying173 rfl (by kernel_rfl) rfl) rfl ⟨rfl,?_⟩
 exact⟨_,_,_,0,rfl⟩
theorem xC (b0 b1 b2 b3:Bool)(d0 d1 d2 d3 x:Int)(w:World)(hb:b2=true):
  Calls Tryz.prog 145 #[.agg #[.bool b0,.bool b1,.bool b2,.bool b3,.int .i64 d0,.int .i64 d1,.int .i64 d2,.int .i64 d3],.agg #[.int .i64 2,.int .i64 2],.int .i64 x] w fun r w'=>r=.returned (.tuple #[.agg #[.bool b0,.bool b1,.bool b2,.bool b3,.int .i64 d0,.int .i64 d1,.int .i64 d2,.int .i64 d3],.bool (d2==x)])∧hU w w':=by
 subst hb
 go_enter Tryz.func145,Tryz.ntmps145
 go_wp2_with fail
 go_region
 all_goals go_wp2_with fail
 all_goals (refine bodyPost_ret (aO Tryz.results145 rfl (bn (by simp)) Tryz.underlying173 rfl (by kernel_rfl) rfl) rfl ⟨rfl,?_⟩)
 all_goals first
  |exact⟨_,_,_,0,rfl⟩
  |exact⟨_,_,_,1,rfl⟩
theorem xq (b0 b1 b2 b3:Bool)(d0 d1 d2 d3 x:Int)(w:World)(hb:b2=false):
  Calls Tryz.prog 145 #[.agg #[.bool b0,.bool b1,.bool b2,.bool b3,.int .i64 d0,.int .i64 d1,.int .i64 d2,.int .i64 d3],.agg #[.int .i64 2,.int .i64 2],.int .i64 x] w fun r w'=>r=.returned (.tuple #[.agg #[.bool b0,.bool b1,.bool true,.bool b3,.int .i64 d0,.int .i64 d1,.int .i64 x,.int .i64 d3],.bool true])∧hU w w':=by
 subst hb
 go_enter Tryz.func145,Tryz.ntmps145
 go_wp2_with fail
 refine bodyPost_ret (aO Tryz.results145 rfl (bn (by simp)) Tryz.underlying173 rfl (by kernel_rfl) rfl) rfl ⟨rfl,?_⟩
 exact⟨_,_,_,0,rfl⟩
theorem yr (b0 b1 b2 b3:Bool)(d0 d1 d2 d3 x:Int)(w:World)(hb:b3=true):
  Calls Tryz.prog 145 #[.agg #[.bool b0,.bool b1,.bool b2,.bool b3,.int .i64 d0,.int .i64 d1,.int .i64 d2,.int .i64 d3],.agg #[.int .i64 2,.int .i64 3],.int .i64 x] w fun r w'=>r=.returned (.tuple #[.agg #[.bool b0,.bool b1,.bool b2,.bool b3,.int .i64 d0,.int .i64 d1,.int .i64 d2,.int .i64 d3],.bool (d3==x)])∧hU w w':=by
 subst hb
 go_enter Tryz.func145,Tryz.ntmps145
 go_wp2_with fail
 go_region
 all_goals go_wp2_with fail
 all_goals (refine bodyPost_ret (aO Tryz.results145 rfl (bn (by simp)) Tryz.underlying173 rfl (by kernel_rfl) rfl) rfl ⟨rfl,?_⟩)
 all_goals first
  |exact⟨_,_,_,0,rfl⟩
  |exact⟨_,_,_,1,rfl⟩
theorem xr (b0 b1 b2 b3:Bool)(d0 d1 d2 d3 x:Int)(w:World)(hb:b3=false):
  Calls Tryz.prog 145 #[.agg #[.bool b0,.bool b1,.bool b2,.bool b3,.int .i64 d0,.int .i64 d1,.int .i64 d2,.int .i64 d3],.agg #[.int .i64 2,.int .i64 3],.int .i64 x] w fun r w'=>r=.returned (.tuple #[.agg #[.bool b0,.bool b1,.bool b2,.bool true,.int .i64 d0,.int .i64 d1,.int .i64 d2,.int .i64 x],.bool true])∧hU w w':=by
 subst hb
 go_enter Tryz.func145,Tryz.ntmps145
 go_wp2_with fail
 refine bodyPost_ret (aO Tryz.results145 rfl (bn (by simp)) Tryz.underlying173 rfl (by kernel_rfl) rfl) rfl ⟨rfl,?_⟩
 exact⟨_,_,_,0,rfl⟩
def qx (e:fu)(t d:Int):Value:=.tuple #[jr ((jE e t d).getD e),.bool (jE e t d).isSome]
theorem zU {t:Int}(h:c8 t=true):t=95∨bM t=true∨t=119∨t=120∨t=121∨t=122:=by
 by_cases h1:t=95
 ·exact .inl h1
 ·have h2:bg t=true:=by simpa [c8,h1] using h
  cases hd:bM t with
  |true=>exact .inr (.inl rfl)
  |false=>
   have hl:eA t=true:=by simpa [bg,hd] using h2
   simp only[eA,decide_eq_true_eq] at hl
   right;right;omega
theorem n9 (e:fu)(t d:Int)(w:World)(ht:c8 t=true):
  Calls Tryz.prog 145 #[jr e,.agg #[.int .i64 (dw t),.int .i64 (dD t)],.int .i64 d] w fun r w'=>r=.returned (qx e t d)∧hU w w':=by
 rcases zU ht with rfl|hd|hl
 ·have e1:qx e 95 d=.tuple #[jr e,.bool true]:=by simp[qx,jE]
  rw[e1]
  exact vJ _ _ _ _ _ _ _ _ _ d w
 ·have k1:dw t=1:=by simp[dw,hd]
  have k2:dD t=t - 48:=by simp[dD,hd]
  have h95:¬t=95:=by rintro rfl;exact absurd hd (by decide)
  have e1:qx e t d=.tuple #[jr e,.bool (t - 48==d)]:=by
   unfold qx jE
   rw[if_neg h95,if_pos hd]
   by_cases hvd:t - 48=d
   ·rw[if_pos hvd];simp[hvd]
   ·rw[if_neg hvd];simp[hvd]
  rw[k1,k2,e1]
  exact AG _ _ _ _ _ _ _ _ _ d w
 ·have hnd:bM t=false:=by rcases hl with rfl|rfl|rfl|rfl <;> rfl
  have h95:¬t=95:=by omega
  have k1:dw t=2:=by rcases hl with rfl|rfl|rfl|rfl <;> rfl
  cases hen:e (t - 119).toNat with
  |some v=>
   have e1:qx e t d=.tuple #[jr e,.bool (dI e (t - 119).toNat==d)]:=by
    have hv:dI e (t - 119).toNat=v:=by unfold dI;rw[hen];rfl
    rw[hv]
    unfold qx jE
    rw[if_neg h95,if_neg (by simp[hnd])]
    simp only[hen]
    by_cases hvd:v=d
    ·rw[if_pos hvd];simp[hvd]
    ·rw[if_neg hvd];simp[hvd]
   have hb:dB e (t - 119).toNat=true:=by unfold dB;rw[hen];rfl
   rw[k1,e1]
   rcases hl with rfl|rfl|rfl|rfl
   ·exact xZ _ _ _ _ _ _ _ _ d w hb
   ·exact wZ _ _ _ _ _ _ _ _ d w hb
   ·exact xC _ _ _ _ _ _ _ _ d w hb
   ·exact yr _ _ _ _ _ _ _ _ d w hb
  |none=>
   have hgo:jE e t d=some (cI e (t - 119).toNat (some d)):=by
    unfold jE
    rw[if_neg h95,if_neg (by simp[hnd])]
    simp only[hen]
   have e1:qx e t d=.tuple #[jr (cI e (t - 119).toNat (some d)),.bool true]:=by unfold qx;rw[hgo];rfl
   have hb:dB e (t - 119).toNat=false:=by unfold dB;rw[hen];rfl
   rw[k1,e1]
   unfold jr
   simp only[FF,F0]
   rcases hl with rfl|rfl|rfl|rfl
   ·exact ym _ _ _ _ _ _ _ _ d w hb
   ·exact wL _ _ _ _ _ _ _ _ d w hb
   ·exact xq _ _ _ _ _ _ _ _ d w hb
   ·exact xr _ _ _ _ _ _ _ _ d w hb
theorem Cp (a0 a1 a2 a3:Bool)(a4 a5 a6 a7:Int)(k c s p1 p2 q1 q2 x0 x1 x2 x3:Int)(w:World)(hc:x0≠c):
  Calls Tryz.prog 138 #[.agg #[.bool a0,.bool a1,.bool a2,.bool a3,.int .i64 a4,.int .i64 a5,.int .i64 a6,.int .i64 a7],.agg #[.int .i64 k,.int .i64 c,.int .u8 s,.int .i64 p1,.int .i64 p2,.int .i64 q1,.int .i64 q2],.agg #[.int .i64 x0,.int .i64 x1,.int .i64 x2,.int .i64 x3]] w fun r w'=>r=.returned (.tuple #[.agg #[.bool a0,.bool a1,.bool a2,.bool a3,.int .i64 a4,.int .i64 a5,.int .i64 a6,.int .i64 a7],.bool false])∧w.grownBy w' none:=by
 have qc:(x0 != c)=true:=by simpa using hc
 go_enter Tryz.func138,Tryz.ntmps138
 go_wp2_with fail
 refine bodyPost_ret (aO Tryz.results138 rfl (bn (by simp)) Tryz.underlying173 rfl (by kernel_rfl) rfl) rfl ⟨rfl,?_⟩
 exact ab (ab (ab (ab (ag _ _) _) _) _) _
theorem Bb (a0 a1 a2 a3:Bool)(a4 a5 a6 a7:Int)(f0 f1 f2 f3:Bool)(f4 f5 f6 f7:Int)(k c s p1 p2 q1 q2 x1 x2 x3:Int)(w:World)
  (H1:Hid (∀ W,Calls Tryz.prog 145 #[.agg #[.bool a0,.bool a1,.bool a2,.bool a3,.int .i64 a4,.int .i64 a5,.int .i64 a6,.int .i64 a7],.agg #[.int .i64 p1,.int .i64 p2],.int .i64 x1] W fun r w'=>r=.returned (.tuple #[.agg #[.bool f0,.bool f1,.bool f2,.bool f3,.int .i64 f4,.int .i64 f5,.int .i64 f6,.int .i64 f7],.bool false])∧hU W w')) :
  Calls Tryz.prog 138 #[.agg #[.bool a0,.bool a1,.bool a2,.bool a3,.int .i64 a4,.int .i64 a5,.int .i64 a6,.int .i64 a7],.agg #[.int .i64 k,.int .i64 c,.int .u8 s,.int .i64 p1,.int .i64 p2,.int .i64 q1,.int .i64 q2],.agg #[.int .i64 c,.int .i64 x1,.int .i64 x2,.int .i64 x3]] w fun r w'=>r=.returned (.tuple #[.agg #[.bool a0,.bool a1,.bool a2,.bool a3,.int .i64 a4,.int .i64 a5,.int .i64 a6,.int .i64 a7],.bool false])∧w.grownBy w' none:=by
 have qc:(c != c)=false:=by simp
 have HRB:Hid (∀ o1 o2 o3 n,((((((((w.alloc (.cells #[.bool a0,.bool a1,.bool a2,.bool a3,.int .i64 a4,.int .i64 a5,.int .i64 a6,.int .i64 a7] 173)).alloc (.cells #[.int .i64 k,.int .i64 c,.int .u8 s,.int .i64 p1,.int .i64 p2,.int .i64 q1,.int .i64 q2] 205)).alloc (.cells #[.int .i64 c,.int .i64 x1,.int .i64 x2,.int .i64 x3] 114)).alloc (.cells #[.bool false,.bool false,.bool false,.bool false,.int .i64 0,.int .i64 0,.int .i64 0,.int .i64 0] 173)).alloc o1).alloc o2).alloc o3).drewN n).heap[w.heap.size+1+1+1]?=some (.cells #[.bool false,.bool false,.bool false,.bool false,.int .i64 0,.int .i64 0,.int .i64 0,.int .i64 0] 173 (0,0))):=af (fun o1 o2 o3 n=>by
  show ((((((((w.alloc (.cells #[.bool a0,.bool a1,.bool a2,.bool a3,.int .i64 a4,.int .i64 a5,.int .i64 a6,.int .i64 a7] 173)).alloc (.cells #[.int .i64 k,.int .i64 c,.int .u8 s,.int .i64 p1,.int .i64 p2,.int .i64 q1,.int .i64 q2] 205)).alloc (.cells #[.int .i64 c,.int .i64 x1,.int .i64 x2,.int .i64 x3] 114)).alloc (.cells #[.bool false,.bool false,.bool false,.bool false,.int .i64 0,.int .i64 0,.int .i64 0,.int .i64 0] 173)).alloc o1).alloc o2).alloc o3)).heap[w.heap.size+1+1+1]?=_
  rw[Below.heap_alloc _ _ _ (by first|(simp;done)|(simp;omega)|omega),Below.heap_alloc _ _ _ (by first|(simp;done)|(simp;omega)|omega),Below.heap_alloc _ _ _ (by first|(simp;done)|(simp;omega)|omega)]
  exact bn (by first|rfl|(simp;done)))
 have HLT:Hid (∀ o1 o2 o3 n,w.heap.size+1+1+1<((((((((w.alloc (.cells #[.bool a0,.bool a1,.bool a2,.bool a3,.int .i64 a4,.int .i64 a5,.int .i64 a6,.int .i64 a7] 173)).alloc (.cells #[.int .i64 k,.int .i64 c,.int .u8 s,.int .i64 p1,.int .i64 p2,.int .i64 q1,.int .i64 q2] 205)).alloc (.cells #[.int .i64 c,.int .i64 x1,.int .i64 x2,.int .i64 x3] 114)).alloc (.cells #[.bool false,.bool false,.bool false,.bool false,.int .i64 0,.int .i64 0,.int .i64 0,.int .i64 0] 173)).alloc o1).alloc o2).alloc o3).drewN n).heap.size):=af (fun o1 o2 o3 n=>lt_of_block (HRB.out o1 o2 o3 n))
 go_enter Tryz.func138,Tryz.ntmps138
 go_wp2_with fail
 go_at_call 145
 refine (H1.out _).mono ?_
 rintro e w1 ⟨rfl,o1,o2,o3,n,rfl⟩
 go_wp2_with fail
 refine bodyPost_ret (aO Tryz.results138 rfl ((Below.heap_alloc _ _ _ (lt_of_block (ah (ah (ah (ah (ah (ah (ah (ah (HRB.out o1 o2 o3 n) _ _) _ _) _ _) _ _) _ _) _ _) _ _) _ _))).trans (ah (ah (ah (ah (ah (ah (ah (ah (HRB.out o1 o2 o3 n) _ _) _ _) _ _) _ _) _ _) _ _) _ _) _ _)) Tryz.underlying173 rfl (by kernel_rfl) rfl) rfl ⟨rfl,?_⟩
 exact ab (aj (aj (aj (aj (aj (aj (aj (aj (al (ab (ab (ab (ab (ab (ab (ab (ag _ _) _) _) _) _) _) _) _) n) (.inr (by show w.heap.size≤w.heap.size+1+1+1;omega)) _) (.inr (by show w.heap.size≤w.heap.size+1+1+1;omega)) _) (.inr (by show w.heap.size≤w.heap.size+1+1+1;omega)) _) (.inr (by show w.heap.size≤w.heap.size+1+1+1;omega)) _) (.inr (by show w.heap.size≤w.heap.size+1+1+1;omega)) _) (.inr (by show w.heap.size≤w.heap.size+1+1+1;omega)) _) (.inr (by show w.heap.size≤w.heap.size+1+1+1;omega)) _) (.inr (by show w.heap.size≤w.heap.size+1+1+1;omega)) _) _
theorem Bm (a0 a1 a2 a3:Bool)(a4 a5 a6 a7:Int)(f0 f1 f2 f3:Bool)(f4 f5 f6 f7:Int)(g0 g1 g2 g3:Bool)(g4 g5 g6 g7:Int)(okb:Bool)(k c s p1 p2 q1 q2 x1 x2 x3:Int)(w:World)
  (H1:Hid (∀ W,Calls Tryz.prog 145 #[.agg #[.bool a0,.bool a1,.bool a2,.bool a3,.int .i64 a4,.int .i64 a5,.int .i64 a6,.int .i64 a7],.agg #[.int .i64 p1,.int .i64 p2],.int .i64 x1] W fun r w'=>r=.returned (.tuple #[.agg #[.bool f0,.bool f1,.bool f2,.bool f3,.int .i64 f4,.int .i64 f5,.int .i64 f6,.int .i64 f7],.bool true])∧hU W w'))
  (H2:Hid (∀ W,Calls Tryz.prog 145 #[.agg #[.bool f0,.bool f1,.bool f2,.bool f3,.int .i64 f4,.int .i64 f5,.int .i64 f6,.int .i64 f7],.agg #[.int .i64 q1,.int .i64 q2],.int .i64 x2] W fun r w'=>r=.returned (.tuple #[.agg #[.bool g0,.bool g1,.bool g2,.bool g3,.int .i64 g4,.int .i64 g5,.int .i64 g6,.int .i64 g7],.bool okb])∧hU W w')) :
  Calls Tryz.prog 138 #[.agg #[.bool a0,.bool a1,.bool a2,.bool a3,.int .i64 a4,.int .i64 a5,.int .i64 a6,.int .i64 a7],.agg #[.int .i64 k,.int .i64 c,.int .u8 s,.int .i64 p1,.int .i64 p2,.int .i64 q1,.int .i64 q2],.agg #[.int .i64 c,.int .i64 x1,.int .i64 x2,.int .i64 x3]] w fun r w'=>r=.returned (.tuple #[.agg #[.bool g0,.bool g1,.bool g2,.bool g3,.int .i64 g4,.int .i64 g5,.int .i64 g6,.int .i64 g7],.bool okb])∧w.grownBy w' none:=by
 have qc:(c != c)=false:=by simp
 have HRB:Hid (∀ o1 o2 o3 n o4 o5 o6 o7 m,(((((((((((((w.alloc (.cells #[.bool a0,.bool a1,.bool a2,.bool a3,.int .i64 a4,.int .i64 a5,.int .i64 a6,.int .i64 a7] 173)).alloc (.cells #[.int .i64 k,.int .i64 c,.int .u8 s,.int .i64 p1,.int .i64 p2,.int .i64 q1,.int .i64 q2] 205)).alloc (.cells #[.int .i64 c,.int .i64 x1,.int .i64 x2,.int .i64 x3] 114)).alloc (.cells #[.bool false,.bool false,.bool false,.bool false,.int .i64 0,.int .i64 0,.int .i64 0,.int .i64 0] 173)).alloc o1).alloc o2).alloc o3).drewN n).alloc o4).alloc o5).alloc o6).alloc o7).drewN m).heap[w.heap.size+1+1+1]?=some (.cells #[.bool false,.bool false,.bool false,.bool false,.int .i64 0,.int .i64 0,.int .i64 0,.int .i64 0] 173 (0,0))):=af (fun o1 o2 o3 n o4 o5 o6 o7 m=>by
  show ((((((((((((w.alloc (.cells #[.bool a0,.bool a1,.bool a2,.bool a3,.int .i64 a4,.int .i64 a5,.int .i64 a6,.int .i64 a7] 173)).alloc (.cells #[.int .i64 k,.int .i64 c,.int .u8 s,.int .i64 p1,.int .i64 p2,.int .i64 q1,.int .i64 q2] 205)).alloc (.cells #[.int .i64 c,.int .i64 x1,.int .i64 x2,.int .i64 x3] 114)).alloc (.cells #[.bool false,.bool false,.bool false,.bool false,.int .i64 0,.int .i64 0,.int .i64 0,.int .i64 0] 173)).alloc o1).alloc o2).alloc o3).drewN n).alloc o4).alloc o5).alloc o6).alloc o7).heap[w.heap.size+1+1+1]?=_
  rw[Below.heap_alloc _ _ _ (by first|(simp;done)|(simp;omega)|omega),Below.heap_alloc _ _ _ (by first|(simp;done)|(simp;omega)|omega),Below.heap_alloc _ _ _ (by first|(simp;done)|(simp;omega)|omega),Below.heap_alloc _ _ _ (by first|(simp;done)|(simp;omega)|omega)]
  show ((((((((w.alloc (.cells #[.bool a0,.bool a1,.bool a2,.bool a3,.int .i64 a4,.int .i64 a5,.int .i64 a6,.int .i64 a7] 173)).alloc (.cells #[.int .i64 k,.int .i64 c,.int .u8 s,.int .i64 p1,.int .i64 p2,.int .i64 q1,.int .i64 q2] 205)).alloc (.cells #[.int .i64 c,.int .i64 x1,.int .i64 x2,.int .i64 x3] 114)).alloc (.cells #[.bool false,.bool false,.bool false,.bool false,.int .i64 0,.int .i64 0,.int .i64 0,.int .i64 0] 173)).alloc o1).alloc o2).alloc o3)).heap[w.heap.size+1+1+1]?=_
  rw[Below.heap_alloc _ _ _ (by first|(simp;done)|(simp;omega)|omega),Below.heap_alloc _ _ _ (by first|(simp;done)|(simp;omega)|omega),Below.heap_alloc _ _ _ (by first|(simp;done)|(simp;omega)|omega)]
  exact bn (by first|rfl|(simp;done)))
 go_enter Tryz.func138,Tryz.ntmps138
 go_wp2_with fail
 go_at_call 145
 refine (H1.out _).mono ?_
 rintro e w1 ⟨rfl,o1,o2,o3,n,rfl⟩
 go_wp2_with fail
 go_at_call 145
 refine (H2.out _).mono ?_
 rintro e w2 ⟨rfl,o5,o6,o7,m,rfl⟩
 go_wp2_with fail
 refine bodyPost_ret (aO Tryz.results138 rfl (ah (ah (ah (ah (ah (ah (ah (ah (HRB.out o1 o2 o3 n _ o5 o6 o7 m) _ _) _ _) _ _) _ _) _ _) _ _) _ _) _ _) Tryz.underlying173 rfl (by kernel_rfl) rfl) rfl ⟨rfl,?_⟩
 exact (aj (aj (aj (aj (aj (aj (aj (aj (al (ab (ab (ab (ab (al (ab (ab (ab (ab (ab (ab (ab (ag _ _) _) _) _) _) _) _) _) n) _) _) _) _) m) (.inr (by show w.heap.size≤w.heap.size+1+1+1;omega)) _) (.inr (by show w.heap.size≤w.heap.size+1+1+1;omega)) _) (.inr (by show w.heap.size≤w.heap.size+1+1+1;omega)) _) (.inr (by show w.heap.size≤w.heap.size+1+1+1;omega)) _) (.inr (by show w.heap.size≤w.heap.size+1+1+1;omega)) _) (.inr (by show w.heap.size≤w.heap.size+1+1+1;omega)) _) (.inr (by show w.heap.size≤w.heap.size+1+1+1;omega)) _) (.inr (by show w.heap.size≤w.heap.size+1+1+1;omega)) _)
def jo (k c g t1 t2:Int):Value:=.agg #[.int .i64 k,.int .i64 (c - 97),.int .u8 g,.int .i64 (dw t1),.int .i64 (dD t1),.int .i64 (dw t2),.int .i64 (dD t2)]
theorem oh (e:fu)(k c g t1 t2:Int)(q:aw)(w:World)(h1:c8 t1=true)(h2:c8 t2=true):
  Calls Tryz.prog 138 #[jr e,jo k c g t1 t2,kQ q] w fun r w'=>(∃ e',r=.returned (.tuple #[jr e',.bool (gd e c t1 t2 q).isSome])∧∀ e2,gd e c t1 t2 q=some e2→e'=e2)∧w.grownBy w' none:=by
 by_cases hc:c - 97=(q.1:Int) / 10
 ·have hgo:gd e c t1 t2 q=(jE e t1 ((q.1:Int) % 10)).bind fun e1=>jE e1 t2 q.2.1:=by unfold gd;rw[if_pos hc]
  cases hg1:jE e t1 ((q.1:Int) % 10) with
  |none=>
   have hn:gd e c t1 t2 q=none:=by rw[hgo,hg1];rfl
   have H1:Hid (∀ W,Calls Tryz.prog 145 #[jr e,.agg #[.int .i64 (dw t1),.int .i64 (dD t1)],.int .i64 ((q.1:Int) % 10)] W fun r w'=>r=.returned (.tuple #[jr e,.bool false])∧hU W w'):=af (fun W=>by
    have:=n9 e t1 ((q.1:Int) % 10) W h1
    unfold qx at this
    rw[hg1] at this
    exact this)
   unfold kQ jo
   rw[←hc]
   refine (Bb _ _ _ _ _ _ _ _ _ _ _ _ _ _ _ _ k (c - 97) g (dw t1) (dD t1) (dw t2) (dD t2) _ _ _ w H1).mono ?_
   rintro r w' ⟨rfl,hg⟩
   exact⟨⟨e,by rw[hn];rfl,fun e2 h=>by rw[hn] at h;cases h⟩,hg⟩
  |some e1=>
   have hn:gd e c t1 t2 q=jE e1 t2 q.2.1:=by rw[hgo,hg1];rfl
   have H1:Hid (∀ W,Calls Tryz.prog 145 #[jr e,.agg #[.int .i64 (dw t1),.int .i64 (dD t1)],.int .i64 ((q.1:Int) % 10)] W fun r w'=>r=.returned (.tuple #[jr e1,.bool true])∧hU W w'):=af (fun W=>by
    have:=n9 e t1 ((q.1:Int) % 10) W h1
    unfold qx at this
    rw[hg1] at this
    exact this)
   have H2:Hid (∀ W,Calls Tryz.prog 145 #[jr e1,.agg #[.int .i64 (dw t2),.int .i64 (dD t2)],.int .i64 q.2.1] W fun r w'=>r=.returned (.tuple #[jr ((jE e1 t2 q.2.1).getD e1),.bool (jE e1 t2 q.2.1).isSome])∧hU W w'):=af (fun W=>n9 e1 t2 q.2.1 W h2)
   unfold kQ jo
   rw[←hc]
   refine (Bm _ _ _ _ _ _ _ _ _ _ _ _ _ _ _ _ _ _ _ _ _ _ _ _ _ k (c - 97) g (dw t1) (dD t1) (dw t2) (dD t2) _ _ _ w H1 H2).mono ?_
   rintro r w' ⟨rfl,hg⟩
   refine⟨⟨(jE e1 t2 q.2.1).getD e1,by rw[hn];rfl,fun e2 h=>?_⟩,hg⟩
   rw[hn] at h
   rw[h];rfl
 ·have hgo:gd e c t1 t2 q=none:=by unfold gd;rw[if_neg hc]
  refine (Cp _ _ _ _ _ _ _ _ k (c - 97) g (dw t1) (dD t1) (dw t2) (dD t2) _ _ _ _ w (fun h=>hc h.symm)).mono ?_
  rintro r w' ⟨rfl,hg⟩
  exact⟨⟨e,by rw[hgo];rfl,fun e2 h=>by rw[hgo] at h;cases h⟩,hg⟩
end Go.Proofs.YthlhbjnkohinmabGreat
