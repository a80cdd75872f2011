import Derived.Test.YthlhbjnkohinmaaGreatP05
import Derived.Test.YthlhbjnkohinmaaGreatP13
import Derived.Test.YthlhbjnkohinmaaGreatP11
import Derived.Test.YthlhbjnkohinmaaGreatP09
import Derived.Test.YthlhbjnkohinmaaGreatP12
import Derived.Test.YthlhbjnkohinmaaGreatP08
namespace Go.Proofs.YthlhbjnkohinmaaGreat
set_option maxRecDepth 100000
set_option maxHeartbeats 8000000
open Go.RowKit
def s0:ByteArray:=⟨#[53,58,97,120,121,62,43,98,120,121,59]⟩
theorem xX (X:ap):(aZ X).2.hist=X.hist:=by unfold aZ;cases be X 0 <;> rfl
theorem z7 (X:ap)(n:Int)(s:ByteArray):(cg X n s).2.hist=X.hist:=by
 unfold cg
 cases aM X n with
 |none=>rfl
 |some k=>cases eQ s <;> rfl
theorem t8 (X:ap)(n:Int)(s:ByteArray):(aX X n s).2.hist=X.hist:=by
 unfold aX
 cases aM X n with
 |none=>rfl
 |some k=>cases eC s <;> rfl
theorem uA (X:ap)(n:Int):(aY X n).2.hist=X.hist:=by
 unfold aY
 cases aM X n <;> rfl
theorem Dw (x:Nat)(X:ap)(f:List Nat)(w:World)(h:aV x X w f)(hn:f.Nodup)(ho:0≤X.opened∧X.opened<9223372036854775807):
  Calls Tryz.prog 19 #[.pointer (some ⟨x,0,none⟩)] w fun e w'=>e=.returned (.tuple #[.int .i64 (aZ X).1.1,.int .i64 (aZ X).1.2])∧cM (aV x (aZ X).2) f w w':=by
 obtain⟨kv,hk⟩:=h
 refine (Ad x X kv w hk.1 ho).mono ?_
 rintro e w' ⟨rfl,hp⟩
 exact⟨rfl,hp.to hk hn (xX X)⟩
theorem Eh (x:Nat)(X:ap)(f:List Nat)(n:Int)(s:ByteArray)(w:World)(h:aV x X w f)(hn:f.Nodup)(hs63:s.size<9223372036854775808)(hm:∀ k,aM X n=some k→(X.ses k).more):
  Calls Tryz.prog 21 #[.pointer (some ⟨x,0,none⟩),.int .i64 n,.string s] w fun e w'=>e=.returned (.int .i64 (cg X n s).1)∧cM (aV x (cg X n s).2) f w w':=by
 obtain⟨kv,hk⟩:=h
 refine (BN x X kv n s w hk.1 hs63 hm).mono ?_
 rintro e w' ⟨rfl,hp⟩
 exact⟨rfl,hp.to hk hn (z7 X n s)⟩
theorem Al (x:Nat)(X:ap)(f:List Nat)(n:Int)(s:ByteArray)(w:World)(h:aV x X w f)(hn:f.Nodup)(hs63:s.size<9223372036854775808)(hm:∀ k,aM X n=some k→(X.ses k).more):
  Calls Tryz.prog 23 #[.pointer (some ⟨x,0,none⟩),.int .i64 n,.string s] w fun e w'=>e=.returned (.int .i64 (aX X n s).1)∧cM (aV x (aX X n s).2) f w w':=by
 obtain⟨kv,hk⟩:=h
 refine (yc x X kv n s w hk.1 hs63 hm).mono ?_
 rintro e w' ⟨rfl,hp⟩
 exact⟨rfl,hp.to hk hn (t8 X n s)⟩
theorem zI (x:Nat)(X:ap)(f:List Nat)(n:Int)(w:World)(h:aV x X w f)(hn:f.Nodup):
  Calls Tryz.prog 27 #[.pointer (some ⟨x,0,none⟩),.int .i64 n] w fun e w'=>e=.returned (.int .i64 (aY X n).1)∧cM (aV x (aY X n).2) f w w':=by
 obtain⟨kv,hk⟩:=h
 refine (yi x X kv n w hk.1).mono ?_
 rintro e w' ⟨rfl,hp⟩
 exact⟨rfl,hp.to hk hn (uA X n)⟩
theorem Cl (x:Nat)(X:ap)(f:List Nat)(n:Int)(w:World)(h:aV x X w f)(hl:∀ c,c<60→(X.hist c).length≤9223372036854775807)(hd:∀ k,aM X n=some k→Ec (jh X k)):
  Calls Tryz.prog 25 #[.pointer (some ⟨x,0,none⟩),.int .i64 n] w fun e w'=>e=.returned (.tuple #[.string (fL X n).1,.int .i64 (fL X n).2])∧Fr [] w w':=by
 obtain⟨kv,hk⟩:=h
 refine (zM x X kv n w hk.1 hk.rows hl hd).mono ?_
 rintro e w' ⟨rfl,hg⟩
 exact⟨rfl,aK hg⟩
def Gf:ByteArray:=⟨#[97,51,55]⟩
def W1 (r:El):ap:=(aZ (X0 r)).2
def W2 (r:El):ap:=(cg (W1 r) 1 Gf).2
def W3 (r:El):ap:=(jQ (W2 r) 1).2
abbrev fq:=Nat→Option Int
def jK (e:fq)(t d:Int):Option fq:=
 if t=95 then some e
 else if bM t then (if t - 48=d then some e else none)
 else match e (t - 119).toNat with
  |none=>some (cG e (t - 119).toNat (some d))
  |some v=>if v=d then some e else none
def gb (e:fq)(c t1 t2:Int)(q:aw):Option fq:=
 if c - 97=(q.1:Int) / 10 then (jK e t1 ((q.1:Int) % 10)).bind fun e1=>jK e1 t2 q.2.1 else none
def fF (z:Int)(e:fq)(t:Int):Int:=if bM t then t - 48 else (e (t - 119).toNat).getD z
def iy (g a b:Int):Bool:=if g=60 then decide (a<b) else if g=61 then decide (a=b) else decide (a≠b)
structure In where
 rule:Nat
 facts:List aw
 env:fq
def In.start (r:Nat):In:=⟨r,[],fun _=>none⟩
def iF (F:List aw)(c t1 t2:Int)(i:In):List In:=F.filterMap fun q=>(gb i.env c t1 t2 q).map fun e=>⟨i.rule,i.facts++[q],e⟩
def fR (F:List aw)(e:fq)(c t1 t2:Int):Bool:=F.all fun q=>(gb e c t1 t2 q).isNone
def kJ (z:Int)(s:ByteArray)(F:List aw)(l:List In)(p:Nat):List In:=
 if bt s p=33 then l.filter fun i=>fR F i.env (bt s (p+1)) (bt s (p+2)) (bt s (p+3))
 else if aR (bt s p) then l.flatMap (iF F (bt s p) (bt s (p+1)) (bt s (p+2)))
 else l.filter fun i=>iy (bt s (p+1)) (fF z i.env (bt s p)) (fF z i.env (bt s (p+2)))
def dy (z:Int)(s:ByteArray)(F:List aw)(r:Nat)(L:List Nat):List In:=L.foldl (kJ z s F) [In.start r]
def bz (z:Int)(s:ByteArray)(F:List aw)(R:List ay)(n:Nat):List In:=(List.range n).flatMap fun r=>dy z s F r (R.getD r (0,[],[])).2.1
theorem gi (z:Int)(s:ByteArray)(F:List aw)(R:List ay)(n:Nat):bz z s F R (n+1)=bz z s F R n++dy z s F n (R.getD n (0,[],[])).2.1:=by
 unfold bz
 rw[List.range_succ,List.flatMap_append]
 simp
theorem ll (F:List aw)(c t1 t2:Int)(i:In):(iF F c t1 t2 i).length≤F.length:=List.length_filterMap_le _ _
theorem ib {α β:Type}{f:α→List β}{m:Nat}(h:∀ a,(f a).length≤m):∀ l:List α,(l.flatMap f).length≤l.length*m
 |[]=>by simp
 |a::l=>by
  have:=ib h l
  have h2:=h a
  rw[List.flatMap_cons,List.length_append,List.length_cons,Nat.add_mul]
  omega
theorem EX (z:Int)(s:ByteArray)(F:List aw)(hF:F.length≤60)(l:List In)(p:Nat):(kJ z s F l p).length≤l.length*60:=by
 unfold kJ
 split
 ·have:=List.length_filter_le (fun i:In=>fR F i.env (bt s (p+1)) (bt s (p+2)) (bt s (p+3))) l
  omega
 ·split
  ·exact ib (fun i=>Nat.le_trans (ll F _ _ _ i) hF) l
  ·have:=List.length_filter_le (fun i:In=>iy (bt s (p+1)) (fF z i.env (bt s p)) (fF z i.env (bt s (p+2)))) l
   omega
structure pK (F:List aw)(i:In):Prop where
 facts:∀ q∈i.facts,q∈F
 env:∀ n v,i.env n=some v→0≤v∧v≤9
def rk (F:List aw):Prop:=∀ q∈F,q.1<60∧0≤q.2.1∧q.2.1≤9
theorem xy {e e':fq}{t d:Int}(h:jK e t d=some e')(he:∀ n v,e n=some v→0≤v∧v≤9)(hd:0≤d∧d≤9):∀ n v,e' n=some v→0≤v∧v≤9:=by
 unfold jK at h
 split at h
 ·cases h;exact he
 ·split at h
  ·split at h
   ·cases h;exact he
   ·cases h
  ·split at h
   ·cases h
    intro n v hv
    unfold cG at hv
    split at hv
    ·cases hv;exact hd
    ·exact he n v hv
   ·split at h
    ·cases h;exact he
    ·cases h
theorem FH {e e':fq}{c t1 t2:Int}{q:aw}(h:gb e c t1 t2 q=some e')(he:∀ n v,e n=some v→0≤v∧v≤9)(hq:q.1<60∧0≤q.2.1∧q.2.1≤9):∀ n v,e' n=some v→0≤v∧v≤9:=by
 unfold gb at h
 split at h
 ·cases h1:jK e t1 ((q.1:Int) % 10) with
  |none=>rw[h1] at h;cases h
  |some e1=>
   rw[h1] at h
   exact xy h (xy h1 he (by omega)) hq.2
 ·cases h
theorem Fs {F:List aw}(hF:rk F){c t1 t2:Int}{i:In}(hi:pK F i):∀ j∈iF F c t1 t2 i,pK F j:=by
 intro j hj
 unfold iF at hj
 obtain⟨q,hq,hm⟩:=List.mem_filterMap.mp hj
 cases hg:gb i.env c t1 t2 q with
 |none=>rw[hg] at hm;cases hm
 |some e=>
  rw[hg] at hm
  simp only[Option.map_some,Option.some.injEq] at hm
  rw[←hm]
  refine⟨fun x hx=>?_,FH hg hi.env (hF q hq)⟩
  rcases List.mem_append.mp hx with hx|hx
  ·exact hi.facts x hx
  ·simp at hx;rw[hx];exact hq
theorem C1 {z:Int}{s:ByteArray}{F:List aw}(hF:rk F){l:List In}(hl:∀ i∈l,pK F i)(p:Nat):∀ j∈kJ z s F l p,pK F j:=by
 intro j hj
 unfold kJ at hj
 split at hj
 ·exact hl j (List.mem_filter.mp hj).1
 ·split at hj
  ·obtain⟨i,hi,hm⟩:=List.mem_flatMap.mp hj
   exact Fs hF (hl i hi) j hm
  ·exact hl j (List.mem_filter.mp hj).1
theorem t6 (F:List aw)(r:Nat):pK F (In.start r):=⟨(by intro q hq;cases hq),(by intro n v hv;cases hv)⟩
variable {α:Type}
def fK (lt:α→α→Bool)(x:α):List α→List α
 |[]=>[x]
 |y::r=>if lt x y then x::y::r else y::fK lt x r
def bK (lt:α→α→Bool)(l:List α):List α:=l.foldl (fun out x=>fK lt x out) []
def kI (lt:α→α→Bool):List α→List α→List α
 |[],B=>B
 |a::A,[]=>a::A
 |a::A,b::B=>if lt b a then b::kI lt (a::A) B else a::kI lt A (b::B)
structure xa (lt:α→α→Bool):Prop where
 trans:∀ {a b c},lt a b=true→lt b c=true→lt a c=true
 neg:∀ {a b c},lt a b=false→lt b c=false→lt a c=false
 irr:∀ a,lt a a=false
theorem pb (lt:α→α→Bool)(A:List α):kI lt A []=A:=by cases A <;> simp[kI]
theorem yL (lt:α→α→Bool)(x:α):∀ A,kI lt A [x]=fK lt x A
 |[]=>by simp[kI,fK]
 |a::A=>by
  rw[kI,fK]
  by_cases h:lt x a=true
  ·rw[if_pos h,if_pos h,pb]
  ·rw[if_neg h,if_neg h,yL lt x A]
theorem tr {lt:α→α→Bool}(hw:xa lt)(x:α):∀ A B,kI lt A (fK lt x B)=fK lt x (kI lt A B)
 |[],B=>by simp[kI]
 |a::A,[]=>by rw[pb];exact yL lt x (a::A)
 |a::A,b::B=>by
  have i1:=tr hw x (a::A) B
  have i2:=tr hw x A (b::B)
  have e1:fK lt x (b::B)=if lt x b then x::b::B else b::fK lt x B:=rfl
  have e2:kI lt (a::A) (b::B)=if lt b a then b::kI lt (a::A) B else a::kI lt A (b::B):=by rw[kI]
  by_cases h1:lt b a=true
  ·rw[e2,if_pos h1]
   by_cases h2:lt x b=true
   ·rw[e1,if_pos h2,fK,if_pos h2,kI,if_pos (hw.trans h2 h1),e2,if_pos h1]
   ·rw[e1,if_neg h2,fK,if_neg h2,kI,if_pos h1,i1]
  ·rw[e2,if_neg h1]
   by_cases h2:lt x b=true
   ·rw[e1,if_pos h2,fK]
    rw[kI]
    by_cases h3:lt x a=true
    ·rw[if_pos h3,if_pos h3,e2,if_neg h1]
    ·rw[if_neg h3,if_neg h3]
     rw[e1,if_pos h2] at i2
     rw[i2]
   ·have h3:¬lt x a=true:=by
     have:=hw.neg (a:=x) (b:=b) (c:=a) (by simpa using h2) (by simpa using h1)
     simp[this]
    rw[e1,if_neg h2] at i2 ⊢
    rw[fK,if_neg h3,kI,if_neg h1,i2]
theorem zE {lt:α→α→Bool}(hw:xa lt)(l1 l2:List α):kI lt (bK lt l1) (bK lt l2)=bK lt (l1++l2):=by
 have key:∀ (n:Nat) (l2:List α),l2.length=n→kI lt (bK lt l1) (bK lt l2)=bK lt (l1++l2):=by
  intro n
  induction n with
  |zero=>
   intro l2 h
   have:l2=[]:=List.length_eq_zero_iff.mp h
   subst this
   simp[bK,pb]
  |succ n ih=>
   intro l2 h
   rcases List.eq_nil_or_concat l2 with rfl|⟨l,x,rfl⟩
   ·simp at h
   ·have hl:l.length=n:=by simpa using h
    have e1:bK lt (l.concat x)=fK lt x (bK lt l):=by simp[bK]
    have e2:bK lt (l1++l.concat x)=fK lt x (bK lt (l1++l)):=by
     rw[List.concat_eq_append,←List.append_assoc]
     simp[bK]
    rw[e1,e2,tr hw,ih l hl]
 exact key _ l2 rfl
def lX (lt:α→α→Bool)(l:List α):Prop:=l.Pairwise fun a b=>lt b a=false
theorem pt {lt:α→α→Bool}{x z:α}:∀ {l:List α},z∈fK lt x l↔z=x∨z∈l
 |[]=>by simp[fK]
 |y::r=>by
  rw[fK]
  split
  ·simp
  ·simp[pt (l:=r)]
   constructor
   ·rintro (h|h|h) <;> simp[h]
   ·rintro (h|h|h) <;> simp[h]
theorem oC {lt:α→α→Bool}(hw:xa lt)(x:α):∀ {l:List α},lX lt l→lX lt (fK lt x l)
 |[],_=>by simp[fK,lX]
 |y::r,h=>by
  have h':=List.pairwise_cons.mp h
  rw[fK]
  by_cases e:lt x y=true
  ·rw[if_pos e]
   refine List.pairwise_cons.mpr ⟨fun z hz=>?_,h⟩
   cases hzx:lt z x with
   |false=>rfl
   |true=>
    have:=hw.trans hzx e
    rcases List.mem_cons.mp hz with rfl|hz
    ·rw[hw.irr] at this;cases this
    ·rw[h'.1 z hz] at this;cases this
  ·rw[if_neg e]
   refine List.pairwise_cons.mpr ⟨fun z hz=>?_,oC hw x h'.2⟩
   rcases pt.mp hz with rfl|hz
   ·simpa using e
   ·exact h'.1 z hz
theorem yM {lt:α→α→Bool}(hw:xa lt)(x:α):∀ (O:List α) (k:Nat),k≤O.length→lX lt O→(∀ b∈O.drop k,lt x b=true)→(k=0∨∃ h:k - 1<O.length,lt x O[k - 1]=false)→fK lt x O=O.take k++x::O.drop k
 |[],k,hk,_,_,_=>by
  have:k=0:=by simpa using hk
  subst this
  rfl
 |o::r,0,_,_,h1,_=>by
  have:=h1 o (by simp)
  simp[fK,this]
 |o::r,m+1,hk,hs,h1,h2=>by
  have hs':=List.pairwise_cons.mp hs
  have hxo:lt x o=false:=by
   rcases h2 with h|⟨h,e⟩
   ·omega
   ·cases m with
    |zero=>simpa using e
    |succ m=>
     have hm:m<r.length:=by simp at h;omega
     have e':lt x r[m]=false:=by simpa using e
     exact hw.neg e' (hs'.1 r[m] (List.getElem_mem hm))
  rw[fK,if_neg (by simp[hxo])]
  rw[yM hw x r m (by simpa using hk) hs'.2 (fun b hb=>h1 b (by simpa using hb)) ?_]
  ·simp
  ·cases m with
   |zero=>exact .inl rfl
   |succ m=>
    right
    rcases h2 with h|⟨h,e⟩
    ·omega
    ·have hm:m<r.length:=by simp at h;omega
     exact⟨by simpa using hm,by simpa using e⟩
theorem pB {lt:α→α→Bool}(l:List α)(x:α):bK lt (l++[x])=fK lt x (bK lt l):=by simp[bK]
theorem sQ {lt:α→α→Bool}(hw:xa lt)(l:List α):lX lt (bK lt l):=by
 have key:∀ (l:List α) (out:List α),lX lt out→lX lt (l.foldl (fun out x=>fK lt x out) out):=by
  intro l
  induction l with
  |nil=>intro out h;exact h
  |cons x l ih=>intro out h;exact ih _ (oC hw x h)
 exact key l [] List.Pairwise.nil
theorem lk {lt:α→α→Bool}{z:α}:∀ {l:List α},z∈bK lt l↔z∈l:=by
 have key:∀ (l out:List α),z∈l.foldl (fun out x=>fK lt x out) out↔z∈l∨z∈out:=by
  intro l
  induction l with
  |nil=>intro out;simp
  |cons x l ih=>
   intro out
   rw[List.foldl_cons,ih,pt]
   simp
   constructor
   ·rintro (h|h|h) <;> simp[h]
   ·rintro ((h|h)|h) <;> simp[h]
 intro l
 have:=key l []
 simpa [bK] using this
theorem wo {lt:α→α→Bool}(x:α):∀ l:List α,(fK lt x l).length=l.length+1
 |[]=>rfl
 |y::r=>by
  rw[fK]
  split
  ·simp
  ·simp[wo x r]
theorem dP {lt:α→α→Bool}(l:List α):(bK lt l).length=l.length:=by
 have key:∀ (l out:List α),(l.foldl (fun out x=>fK lt x out) out).length=l.length+out.length:=by
  intro l
  induction l with
  |nil=>intro out;simp
  |cons x l ih=>intro out;rw[List.foldl_cons,ih,wo];simp;omega
 have:=key l []
 simpa [bK] using this
theorem bl {w:World}{o:Obj}{n:Nat}(h:n=w.heap.size):(w.alloc o).heap[n]?=some o:=by subst h;exact heap_alloc_new w o
def dI (e:fq)(n:Nat):Int:=(e n).getD 0
def dB (e:fq)(n:Nat):Bool:=(e n).isSome
def jy (e:fq):Value:=.agg #[.bool (dB e 0),.bool (dB e 1),.bool (dB e 2),.bool (dB e 3),.int .i64 (dI e 0),.int .i64 (dI e 1),.int .i64 (dI e 2),.int .i64 (dI e 3)]
def ie (w w':World):Prop:=∃ o1 o2 o3 n,w'=(((w.alloc o1).alloc o2).alloc o3).drewN n
theorem Fw (e:fq)(n:Nat)(d:Int)(j:Nat):dI (cG e n (some d)) j=if j=n then d else dI e j:=by
 unfold dI cG
 split <;> rfl
theorem FO (e:fq)(n:Nat)(d:Int)(j:Nat):dB (cG e n (some d)) j=if j=n then true else dB e j:=by
 unfold dB cG
 split <;> rfl
theorem uB (b0 b1 b2 b3:Bool)(d0 d1 d2 d3 v x:Int)(w:World):
  Calls Tryz.prog 151 #[.agg #[.bool b0,.bool b1,.bool b2,.bool b3,.int .i64 d0,.int .i64 d1,.int .i64 d2,.int .i64 d3],.agg #[.int .i64 0,.int .i64 v],.int .i64 x] w fun r w'=>r=.returned (.tuple #[.agg #[.bool b0,.bool b1,.bool b2,.bool b3,.int .i64 d0,.int .i64 d1,.int .i64 d2,.int .i64 d3],.bool true])∧ie w w':=by
 go_enter Tryz.func151,Tryz.ntmps151
 go_wp2_with fail
 refine bodyPost_ret (aO Tryz.results151 rfl (bl (by simp)) Tryz.underlying174 rfl (by kernel_rfl) rfl) rfl ⟨rfl,?_⟩
 exact⟨_,_,_,0,rfl⟩
theorem zR (b0 b1 b2 b3:Bool)(d0 d1 d2 d3 v x:Int)(w:World):
  Calls Tryz.prog 151 #[.agg #[.bool b0,.bool b1,.bool b2,.bool b3,.int .i64 d0,.int .i64 d1,.int .i64 d2,.int .i64 d3],.agg #[.int .i64 1,.int .i64 v],.int .i64 x] w fun r w'=>r=.returned (.tuple #[.agg #[.bool b0,.bool b1,.bool b2,.bool b3,.int .i64 d0,.int .i64 d1,.int .i64 d2,.int .i64 d3],.bool (v==x)])∧ie w w':=by
 go_enter Tryz.func151,Tryz.ntmps151
 go_wp2_with fail
 go_region
 all_goals go_wp2_with fail
 all_goals (refine bodyPost_ret (aO Tryz.results151 rfl (bl (by simp)) Tryz.underlying174 rfl (by kernel_rfl) rfl) rfl ⟨rfl,?_⟩)
 all_goals first
  |exact⟨_,_,_,0,rfl⟩
  |exact⟨_,_,_,1,rfl⟩
theorem xo (b0 b1 b2 b3:Bool)(d0 d1 d2 d3 x:Int)(w:World)(hb:b0=true):
  Calls Tryz.prog 151 #[.agg #[.bool b0,.bool b1,.bool b2,.bool b3,.int .i64 d0,.int .i64 d1,.int .i64 d2,.int .i64 d3],.agg #[.int .i64 2,.int .i64 0],.int .i64 x] w fun r w'=>r=.returned (.tuple #[.agg #[.bool b0,.bool b1,.bool b2,.bool b3,.int .i64 d0,.int .i64 d1,.int .i64 d2,.int .i64 d3],.bool (d0==x)])∧ie w w':=by
 subst hb
 go_enter Tryz.func151,Tryz.ntmps151
 go_wp2_with fail
 go_region
 all_goals go_wp2_with fail
 all_goals (refine bodyPost_ret (aO Tryz.results151 rfl (bl (by simp)) Tryz.underlying174 rfl (by kernel_rfl) rfl) rfl ⟨rfl,?_⟩)
 all_goals first
  |exact⟨_,_,_,0,rfl⟩
  |exact⟨_,_,_,1,rfl⟩
theorem wE (b0 b1 b2 b3:Bool)(d0 d1 d2 d3 x:Int)(w:World)(hb:b0=false):
  Calls Tryz.prog 151 #[.agg #[.bool b0,.bool b1,.bool b2,.bool b3,.int .i64 d0,.int .i64 d1,.int .i64 d2,.int .i64 d3],.agg #[.int .i64 2,.int .i64 0],.int .i64 x] w fun r w'=>r=.returned (.tuple #[.agg #[.bool true,.bool b1,.bool b2,.bool b3,.int .i64 x,.int .i64 d1,.int .i64 d2,.int .i64 d3],.bool true])∧ie w w':=by
 subst hb
 go_enter Tryz.func151,Tryz.ntmps151
 go_wp2_with fail
 refine bodyPost_ret (aO Tryz.results151 rfl (bl (by simp)) Tryz.underlying174 rfl (by kernel_rfl) rfl) rfl ⟨rfl,?_⟩
 exact⟨_,_,_,0,rfl⟩
theorem xz (b0 b1 b2 b3:Bool)(d0 d1 d2 d3 x:Int)(w:World)(hb:b1=true):
  Calls Tryz.prog 151 #[.agg #[.bool b0,.bool b1,.bool b2,.bool b3,.int .i64 d0,.int .i64 d1,.int .i64 d2,.int .i64 d3],.agg #[.int .i64 2,.int .i64 1],.int .i64 x] w fun r w'=>r=.returned (.tuple #[.agg #[.bool b0,.bool b1,.bool b2,.bool b3,.int .i64 d0,.int .i64 d1,.int .i64 d2,.int .i64 d3],.bool (d1==x)])∧ie w w':=by
 subst hb
 go_enter Tryz.func151,Tryz.ntmps151
 go_wp2_with fail
 go_region
 all_goals go_wp2_with fail
 all_goals (refine bodyPost_ret (aO Tryz.results151 rfl (bl (by simp)) Tryz.underlying174 rfl (by kernel_rfl) rfl) rfl ⟨rfl,?_⟩)
 all_goals first
  |exact⟨_,_,_,0,rfl⟩
  |exact⟨_,_,_,1,rfl⟩
theorem wT (b0 b1 b2 b3:Bool)(d0 d1 d2 d3 x:Int)(w:World)(hb:b1=false):
  Calls Tryz.prog 151 #[.agg #[.bool b0,.bool b1,.bool b2,.bool b3,.int .i64 d0,.int .i64 d1,.int .i64 d2,.int .i64 d3],.agg #[.int .i64 2,.int .i64 1],.int .i64 x] w fun r w'=>r=.returned (.tuple #[.agg #[.bool b0,.bool true,.bool b2,.bool b3,.int .i64 d0,.int .i64 x,.int .i64 d2,.int .i64 d3],.bool true])∧ie w w':=by
 subst hb
 go_enter Tryz.func151,Tryz.ntmps151
 go_wp2_with fail
 refine bodyPost_ret (aO Tryz.results151 rfl (bl (by simp)) Tryz.underlying174 rfl (by kernel_rfl) rfl) rfl ⟨rfl,?_⟩
 exact⟨_,_,_,0,rfl⟩
theorem wL (b0 b1 b2 b3:Bool)(d0 d1 d2 d3 x:Int)(w:World)(hb:b2=true):
  Calls Tryz.prog 151 #[.agg #[.bool b0,.bool b1,.bool b2,.bool b3,.int .i64 d0,.int .i64 d1,.int .i64 d2,.int .i64 d3],.agg #[.int .i64 2,.int .i64 2],.int .i64 x] w fun r w'=>r=.returned (.tuple #[.agg #[.bool b0,.bool b1,.bool b2,.bool b3,.int .i64 d0,.int .i64 d1,.int .i64 d2,.int .i64 d3],.bool (d2==x)])∧ie w w':=by
 subst hb
 go_enter Tryz.func151,Tryz.ntmps151
 go_wp2_with fail
 go_region
 all_goals go_wp2_with fail
 all_goals (refine bodyPost_ret (aO Tryz.results151 rfl (bl (by simp)) Tryz.underlying174 rfl (by kernel_rfl) rfl) rfl ⟨rfl,?_⟩)
 all_goals first
  |exact⟨_,_,_,0,rfl⟩
  |exact⟨_,_,_,1,rfl⟩
theorem xQ (b0 b1 b2 b3:Bool)(d0 d1 d2 d3 x:Int)(w:World)(hb:b2=false):
  Calls Tryz.prog 151 #[.agg #[.bool b0,.bool b1,.bool b2,.bool b3,.int .i64 d0,.int .i64 d1,.int .i64 d2,.int .i64 d3],.agg #[.int .i64 2,.int .i64 2],.int .i64 x] w fun r w'=>r=.returned (.tuple #[.agg #[.bool b0,.bool b1,.bool true,.bool b3,.int .i64 d0,.int .i64 d1,.int .i64 x,.int .i64 d3],.bool true])∧ie w w':=by
 subst hb
 go_enter Tryz.func151,Tryz.ntmps151
 go_wp2_with fail
 refine bodyPost_ret (aO Tryz.results151 rfl (bl (by simp)) Tryz.underlying174 rfl (by kernel_rfl) rfl) rfl ⟨rfl,?_⟩
 exact⟨_,_,_,0,rfl⟩
theorem xY (b0 b1 b2 b3:Bool)(d0 d1 d2 d3 x:Int)(w:World)(hb:b3=true):
  Calls Tryz.prog 151 #[.agg #[.bool b0,.bool b1,.bool b2,.bool b3,.int .i64 d0,.int .i64 d1,.int .i64 d2,.int .i64 d3],.agg #[.int .i64 2,.int .i64 3],.int .i64 x] w fun r w'=>r=.returned (.tuple #[.agg #[.bool b0,.bool b1,.bool b2,.bool b3,.int .i64 d0,.int .i64 d1,.int .i64 d2,.int .i64 d3],.bool (d3==x)])∧ie w w':=by
 subst hb
 go_enter Tryz.func151,Tryz.ntmps151
 go_wp2_with fail
 go_region
 all_goals go_wp2_with fail
 all_goals (refine bodyPost_ret (aO Tryz.results151 rfl (bl (by simp)) Tryz.underlying174 rfl (by kernel_rfl) rfl) rfl ⟨rfl,?_⟩)
 all_goals first
  |exact⟨_,_,_,0,rfl⟩
  |exact⟨_,_,_,1,rfl⟩
theorem xJ (b0 b1 b2 b3:Bool)(d0 d1 d2 d3 x:Int)(w:World)(hb:b3=false):
  Calls Tryz.prog 151 #[.agg #[.bool b0,.bool b1,.bool b2,.bool b3,.int .i64 d0,.int .i64 d1,.int .i64 d2,.int .i64 d3],.agg #[.int .i64 2,.int .i64 3],.int .i64 x] w fun r w'=>r=.returned (.tuple #[.agg #[.bool b0,.bool b1,.bool b2,.bool true,.int .i64 d0,.int .i64 d1,.int .i64 d2,.int .i64 x],.bool true])∧ie w w':=by
 subst hb
 go_enter Tryz.func151,Tryz.ntmps151
 go_wp2_with fail
 refine bodyPost_ret (aO Tryz.results151 rfl (bl (by simp)) Tryz.underlying174 rfl (by kernel_rfl) rfl) rfl ⟨rfl,?_⟩
 exact⟨_,_,_,0,rfl⟩
def qR (e:fq)(t d:Int):Value:=.tuple #[jy ((jK e t d).getD e),.bool (jK e t d).isSome]
theorem zD {t:Int}(h:c7 t=true):t=95∨bM t=true∨t=119∨t=120∨t=121∨t=122:=by
 by_cases h1:t=95
 ·exact .inl h1
 ·have h2:bd t=true:=by simpa [c7,h1] using h
  cases hd:bM t with
  |true=>exact .inr (.inl rfl)
  |false=>
   have hl:ex t=true:=by simpa [bd,hd] using h2
   simp only[ex,decide_eq_true_eq] at hl
   right;right;omega
theorem nY (e:fq)(t d:Int)(w:World)(ht:c7 t=true):
  Calls Tryz.prog 151 #[jy e,.agg #[.int .i64 (dw t),.int .i64 (dC t)],.int .i64 d] w fun r w'=>r=.returned (qR e t d)∧ie w w':=by
 rcases zD ht with rfl|hd|hl
 ·have e1:qR e 95 d=.tuple #[jy e,.bool true]:=by simp[qR,jK]
  rw[e1]
  exact uB _ _ _ _ _ _ _ _ _ d w
 ·have k1:dw t=1:=by simp[dw,hd]
  have k2:dC t=t - 48:=by simp[dC,hd]
  have h95:¬t=95:=by rintro rfl;exact absurd hd (by decide)
  have e1:qR e t d=.tuple #[jy e,.bool (t - 48==d)]:=by
   unfold qR jK
   rw[if_neg h95,if_pos hd]
   by_cases hvd:t - 48=d
   ·rw[if_pos hvd];simp[hvd]
   ·rw[if_neg hvd];simp[hvd]
  rw[k1,k2,e1]
  exact zR _ _ _ _ _ _ _ _ _ d w
 ·have hnd:bM t=false:=by rcases hl with rfl|rfl|rfl|rfl <;> rfl
  have h95:¬t=95:=by omega
  have k1:dw t=2:=by rcases hl with rfl|rfl|rfl|rfl <;> rfl
  cases hen:e (t - 119).toNat with
  |some v=>
   have e1:qR e t d=.tuple #[jy e,.bool (dI e (t - 119).toNat==d)]:=by
    have hv:dI e (t - 119).toNat=v:=by unfold dI;rw[hen];rfl
    rw[hv]
    unfold qR jK
    rw[if_neg h95,if_neg (by simp[hnd])]
    simp only[hen]
    by_cases hvd:v=d
    ·rw[if_pos hvd];simp[hvd]
    ·rw[if_neg hvd];simp[hvd]
   have hb:dB e (t - 119).toNat=true:=by unfold dB;rw[hen];rfl
   rw[k1,e1]
   rcases hl with rfl|rfl|rfl|rfl
   ·exact xo _ _ _ _ _ _ _ _ d w hb
   ·exact xz _ _ _ _ _ _ _ _ d w hb
   ·exact wL _ _ _ _ _ _ _ _ d w hb
   ·exact xY _ _ _ _ _ _ _ _ d w hb
  |none=>
   have hgo:jK e t d=some (cG e (t - 119).toNat (some d)):=by
    unfold jK
    rw[if_neg h95,if_neg (by simp[hnd])]
    simp only[hen]
   have e1:qR e t d=.tuple #[jy (cG e (t - 119).toNat (some d)),.bool true]:=by unfold qR;rw[hgo];rfl
   have hb:dB e (t - 119).toNat=false:=by unfold dB;rw[hen];rfl
   rw[k1,e1]
   unfold jy
   simp only[Fw,FO]
   rcases hl with rfl|rfl|rfl|rfl
   ·exact wE _ _ _ _ _ _ _ _ d w hb
   ·exact wT _ _ _ _ _ _ _ _ d w hb
   ·exact xQ _ _ _ _ _ _ _ _ d w hb
   ·exact xJ _ _ _ _ _ _ _ _ d w hb
theorem CA (a0 a1 a2 a3:Bool)(a4 a5 a6 a7:Int)(k c s p1 p2 q1 q2 x0 x1 x2 x3:Int)(w:World)(hc:x0≠c):
  Calls Tryz.prog 144 #[.agg #[.bool a0,.bool a1,.bool a2,.bool a3,.int .i64 a4,.int .i64 a5,.int .i64 a6,.int .i64 a7],.agg #[.int .i64 k,.int .i64 c,.int .u8 s,.int .i64 p1,.int .i64 p2,.int .i64 q1,.int .i64 q2],.agg #[.int .i64 x0,.int .i64 x1,.int .i64 x2,.int .i64 x3]] w fun r w'=>r=.returned (.tuple #[.agg #[.bool a0,.bool a1,.bool a2,.bool a3,.int .i64 a4,.int .i64 a5,.int .i64 a6,.int .i64 a7],.bool false])∧w.grownBy w' none:=by
 have qc:(x0 != c)=true:=by simpa using hc
 go_enter Tryz.func144,Tryz.ntmps144
 go_wp2_with fail
 refine bodyPost_ret (aO Tryz.results144 rfl (bl (by simp)) Tryz.underlying174 rfl (by kernel_rfl) rfl) rfl ⟨rfl,?_⟩
 exact ab (ab (ab (ab (ag _ _) _) _) _) _
theorem zL (a0 a1 a2 a3:Bool)(a4 a5 a6 a7:Int)(f0 f1 f2 f3:Bool)(f4 f5 f6 f7:Int)(k c s p1 p2 q1 q2 x1 x2 x3:Int)(w:World)
  (H1:Hid (∀ W,Calls Tryz.prog 151 #[.agg #[.bool a0,.bool a1,.bool a2,.bool a3,.int .i64 a4,.int .i64 a5,.int .i64 a6,.int .i64 a7],.agg #[.int .i64 p1,.int .i64 p2],.int .i64 x1] W fun r w'=>r=.returned (.tuple #[.agg #[.bool f0,.bool f1,.bool f2,.bool f3,.int .i64 f4,.int .i64 f5,.int .i64 f6,.int .i64 f7],.bool false])∧ie W w')) :
  Calls Tryz.prog 144 #[.agg #[.bool a0,.bool a1,.bool a2,.bool a3,.int .i64 a4,.int .i64 a5,.int .i64 a6,.int .i64 a7],.agg #[.int .i64 k,.int .i64 c,.int .u8 s,.int .i64 p1,.int .i64 p2,.int .i64 q1,.int .i64 q2],.agg #[.int .i64 c,.int .i64 x1,.int .i64 x2,.int .i64 x3]] w fun r w'=>r=.returned (.tuple #[.agg #[.bool a0,.bool a1,.bool a2,.bool a3,.int .i64 a4,.int .i64 a5,.int .i64 a6,.int .i64 a7],.bool false])∧w.grownBy w' none:=by
 have qc:(c != c)=false:=by simp
 have HRB:Hid (∀ o1 o2 o3 n,((((((((w.alloc (.cells #[.bool a0,.bool a1,.bool a2,.bool a3,.int .i64 a4,.int .i64 a5,.int .i64 a6,.int .i64 a7] 174)).alloc (.cells #[.int .i64 k,.int .i64 c,.int .u8 s,.int .i64 p1,.int .i64 p2,.int .i64 q1,.int .i64 q2] 206)).alloc (.cells #[.int .i64 c,.int .i64 x1,.int .i64 x2,.int .i64 x3] 114)).alloc (.cells #[.bool false,.bool false,.bool false,.bool false,.int .i64 0,.int .i64 0,.int .i64 0,.int .i64 0] 174)).alloc o1).alloc o2).alloc o3).drewN n).heap[w.heap.size+1+1+1]?=some (.cells #[.bool false,.bool false,.bool false,.bool false,.int .i64 0,.int .i64 0,.int .i64 0,.int .i64 0] 174 (0,0))):=af (fun o1 o2 o3 n=>by
  show ((((((((w.alloc (.cells #[.bool a0,.bool a1,.bool a2,.bool a3,.int .i64 a4,.int .i64 a5,.int .i64 a6,.int .i64 a7] 174)).alloc (.cells #[.int .i64 k,.int .i64 c,.int .u8 s,.int .i64 p1,.int .i64 p2,.int .i64 q1,.int .i64 q2] 206)).alloc (.cells #[.int .i64 c,.int .i64 x1,.int .i64 x2,.int .i64 x3] 114)).alloc (.cells #[.bool false,.bool false,.bool false,.bool false,.int .i64 0,.int .i64 0,.int .i64 0,.int .i64 0] 174)).alloc o1).alloc o2).alloc o3)).heap[w.heap.size+1+1+1]?=_
  rw[Below.heap_alloc _ _ _ (by first|(simp;done)|(simp;omega)|omega),Below.heap_alloc _ _ _ (by first|(simp;done)|(simp;omega)|omega),Below.heap_alloc _ _ _ (by first|(simp;done)|(simp;omega)|omega)]
  exact bl (by first|rfl|(simp;done)))
 have HLT:Hid (∀ o1 o2 o3 n,w.heap.size+1+1+1<((((((((w.alloc (.cells #[.bool a0,.bool a1,.bool a2,.bool a3,.int .i64 a4,.int .i64 a5,.int .i64 a6,.int .i64 a7] 174)).alloc (.cells #[.int .i64 k,.int .i64 c,.int .u8 s,.int .i64 p1,.int .i64 p2,.int .i64 q1,.int .i64 q2] 206)).alloc (.cells #[.int .i64 c,.int .i64 x1,.int .i64 x2,.int .i64 x3] 114)).alloc (.cells #[.bool false,.bool false,.bool false,.bool false,.int .i64 0,.int .i64 0,.int .i64 0,.int .i64 0] 174)).alloc o1).alloc o2).alloc o3).drewN n).heap.size):=af (fun o1 o2 o3 n=>lt_of_block (HRB.out o1 o2 o3 n))
 go_enter Tryz.func144,Tryz.ntmps144
 go_wp2_with fail
 go_at_call 151
 refine (H1.out _).mono ?_
 rintro e w1 ⟨rfl,o1,o2,o3,n,rfl⟩
 go_wp2_with fail
 refine bodyPost_ret (aO Tryz.results144 rfl ((Below.heap_alloc _ _ _ (lt_of_block (ah (ah (ah (ah (ah (ah (ah (ah (HRB.out o1 o2 o3 n) _ _) _ _) _ _) _ _) _ _) _ _) _ _) _ _))).trans (ah (ah (ah (ah (ah (ah (ah (ah (HRB.out o1 o2 o3 n) _ _) _ _) _ _) _ _) _ _) _ _) _ _) _ _)) Tryz.underlying174 rfl (by kernel_rfl) rfl) rfl ⟨rfl,?_⟩
 exact ab (aj (aj (aj (aj (aj (aj (aj (aj (al (ab (ab (ab (ab (ab (ab (ab (ag _ _) _) _) _) _) _) _) _) n) (.inr (by show w.heap.size≤w.heap.size+1+1+1;omega)) _) (.inr (by show w.heap.size≤w.heap.size+1+1+1;omega)) _) (.inr (by show w.heap.size≤w.heap.size+1+1+1;omega)) _) (.inr (by show w.heap.size≤w.heap.size+1+1+1;omega)) _) (.inr (by show w.heap.size≤w.heap.size+1+1+1;omega)) _) (.inr (by show w.heap.size≤w.heap.size+1+1+1;omega)) _) (.inr (by show w.heap.size≤w.heap.size+1+1+1;omega)) _) (.inr (by show w.heap.size≤w.heap.size+1+1+1;omega)) _) _
theorem zG (a0 a1 a2 a3:Bool)(a4 a5 a6 a7:Int)(f0 f1 f2 f3:Bool)(f4 f5 f6 f7:Int)(g0 g1 g2 g3:Bool)(g4 g5 g6 g7:Int)(okb:Bool)(k c s p1 p2 q1 q2 x1 x2 x3:Int)(w:World)
  (H1:Hid (∀ W,Calls Tryz.prog 151 #[.agg #[.bool a0,.bool a1,.bool a2,.bool a3,.int .i64 a4,.int .i64 a5,.int .i64 a6,.int .i64 a7],.agg #[.int .i64 p1,.int .i64 p2],.int .i64 x1] W fun r w'=>r=.returned (.tuple #[.agg #[.bool f0,.bool f1,.bool f2,.bool f3,.int .i64 f4,.int .i64 f5,.int .i64 f6,.int .i64 f7],.bool true])∧ie W w'))
  (H2:Hid (∀ W,Calls Tryz.prog 151 #[.agg #[.bool f0,.bool f1,.bool f2,.bool f3,.int .i64 f4,.int .i64 f5,.int .i64 f6,.int .i64 f7],.agg #[.int .i64 q1,.int .i64 q2],.int .i64 x2] W fun r w'=>r=.returned (.tuple #[.agg #[.bool g0,.bool g1,.bool g2,.bool g3,.int .i64 g4,.int .i64 g5,.int .i64 g6,.int .i64 g7],.bool okb])∧ie W w')) :
  Calls Tryz.prog 144 #[.agg #[.bool a0,.bool a1,.bool a2,.bool a3,.int .i64 a4,.int .i64 a5,.int .i64 a6,.int .i64 a7],.agg #[.int .i64 k,.int .i64 c,.int .u8 s,.int .i64 p1,.int .i64 p2,.int .i64 q1,.int .i64 q2],.agg #[.int .i64 c,.int .i64 x1,.int .i64 x2,.int .i64 x3]] w fun r w'=>r=.returned (.tuple #[.agg #[.bool g0,.bool g1,.bool g2,.bool g3,.int .i64 g4,.int .i64 g5,.int .i64 g6,.int .i64 g7],.bool okb])∧w.grownBy w' none:=by
 have qc:(c != c)=false:=by simp
 have HRB:Hid (∀ o1 o2 o3 n o4 o5 o6 o7 m,(((((((((((((w.alloc (.cells #[.bool a0,.bool a1,.bool a2,.bool a3,.int .i64 a4,.int .i64 a5,.int .i64 a6,.int .i64 a7] 174)).alloc (.cells #[.int .i64 k,.int .i64 c,.int .u8 s,.int .i64 p1,.int .i64 p2,.int .i64 q1,.int .i64 q2] 206)).alloc (.cells #[.int .i64 c,.int .i64 x1,.int .i64 x2,.int .i64 x3] 114)).alloc (.cells #[.bool false,.bool false,.bool false,.bool false,.int .i64 0,.int .i64 0,.int .i64 0,.int .i64 0] 174)).alloc o1).alloc o2).alloc o3).drewN n).alloc o4).alloc o5).alloc o6).alloc o7).drewN m).heap[w.heap.size+1+1+1]?=some (.cells #[.bool false,.bool false,.bool false,.bool false,.int .i64 0,.int .i64 0,.int .i64 0,.int .i64 0] 174 (0,0))):=af (fun o1 o2 o3 n o4 o5 o6 o7 m=>by
  show ((((((((((((w.alloc (.cells #[.bool a0,.bool a1,.bool a2,.bool a3,.int .i64 a4,.int .i64 a5,.int .i64 a6,.int .i64 a7] 174)).alloc (.cells #[.int .i64 k,.int .i64 c,.int .u8 s,.int .i64 p1,.int .i64 p2,.int .i64 q1,.int .i64 q2] 206)).alloc (.cells #[.int .i64 c,.int .i64 x1,.int .i64 x2,.int .i64 x3] 114)).alloc (.cells #[.bool false,.bool false,.bool false,.bool false,.int .i64 0,.int .i64 0,.int .i64 0,.int .i64 0] 174)).alloc o1).alloc o2).alloc o3).drewN n).alloc o4).alloc o5).alloc o6).alloc o7).heap[w.heap.size+1+1+1]?=_
  rw[Below.heap_alloc _ _ _ (by first|(simp;done)|(simp;omega)|omega),Below.heap_alloc _ _ _ (by first|(simp;done)|(simp;omega)|omega),Below.heap_alloc _ _ _ (by first|(simp;done)|(simp;omega)|omega),Below.heap_alloc _ _ _ (by first|(simp;done)|(simp;omega)|omega)]
  show ((((((((w.alloc (.cells #[.bool a0,.bool a1,.bool a2,.bool a3,.int .i64 a4,.int .i64 a5,.int .i64 a6,.int .i64 a7] 174)).alloc (.cells #[.int .i64 k,.int .i64 c,.int .u8 s,.int .i64 p1,.int .i64 p2,.int .i64 q1,.int .i64 q2] 206)).alloc (.cells #[.int .i64 c,.int .i64 x1,.int .i64 x2,.int .i64 x3] 114)).alloc (.cells #[.bool false,.bool false,.bool false,.bool false,.int .i64 0,.int .i64 0,.int .i64 0,.int .i64 0] 174)).alloc o1).alloc o2).alloc o3)).heap[w.heap.size+1+1+1]?=_
  rw[Below.heap_alloc _ _ _ (by first|(simp;done)|(simp;omega)|omega),Below.heap_alloc _ _ _ (by first|(simp;done)|(simp;omega)|omega),Below.heap_alloc _ _ _ (by first|(simp;done)|(simp;omega)|omega)]
  exact bl (by first|rfl|(simp;done)))
 go_enter Tryz.func144,Tryz.ntmps144
 go_wp2_with fail
 go_at_call 151
 refine (H1.out _).mono ?_
 rintro e w1 ⟨rfl,o1,o2,o3,n,rfl⟩
 go_wp2_with fail
 go_at_call 151
 refine (H2.out _).mono ?_
 rintro e w2 ⟨rfl,o5,o6,o7,m,rfl⟩
 go_wp2_with fail
 refine bodyPost_ret (aO Tryz.results144 rfl (ah (ah (ah (ah (ah (ah (ah (ah (HRB.out o1 o2 o3 n _ o5 o6 o7 m) _ _) _ _) _ _) _ _) _ _) _ _) _ _) _ _) Tryz.underlying174 rfl (by kernel_rfl) rfl) rfl ⟨rfl,?_⟩
 exact (aj (aj (aj (aj (aj (aj (aj (aj (al (ab (ab (ab (ab (al (ab (ab (ab (ab (ab (ab (ab (ag _ _) _) _) _) _) _) _) _) n) _) _) _) _) m) (.inr (by show w.heap.size≤w.heap.size+1+1+1;omega)) _) (.inr (by show w.heap.size≤w.heap.size+1+1+1;omega)) _) (.inr (by show w.heap.size≤w.heap.size+1+1+1;omega)) _) (.inr (by show w.heap.size≤w.heap.size+1+1+1;omega)) _) (.inr (by show w.heap.size≤w.heap.size+1+1+1;omega)) _) (.inr (by show w.heap.size≤w.heap.size+1+1+1;omega)) _) (.inr (by show w.heap.size≤w.heap.size+1+1+1;omega)) _) (.inr (by show w.heap.size≤w.heap.size+1+1+1;omega)) _)
def ji (k c g t1 t2:Int):Value:=.agg #[.int .i64 k,.int .i64 (c - 97),.int .u8 g,.int .i64 (dw t1),.int .i64 (dC t1),.int .i64 (dw t2),.int .i64 (dC t2)]
theorem oe (e:fq)(k c g t1 t2:Int)(q:aw)(w:World)(h1:c7 t1=true)(h2:c7 t2=true):
  Calls Tryz.prog 144 #[jy e,ji k c g t1 t2,kT q] w fun r w'=>(∃ e',r=.returned (.tuple #[jy e',.bool (gb e c t1 t2 q).isSome])∧∀ e2,gb e c t1 t2 q=some e2→e'=e2)∧w.grownBy w' none:=by
 by_cases hc:c - 97=(q.1:Int) / 10
 ·have hgo:gb e c t1 t2 q=(jK e t1 ((q.1:Int) % 10)).bind fun e1=>jK e1 t2 q.2.1:=by unfold gb;rw[if_pos hc]
  cases hg1:jK e t1 ((q.1:Int) % 10) with
  |none=>
   have hn:gb e c t1 t2 q=none:=by rw[hgo,hg1];rfl
   have H1:Hid (∀ W,Calls Tryz.prog 151 #[jy e,.agg #[.int .i64 (dw t1),.int .i64 (dC t1)],.int .i64 ((q.1:Int) % 10)] W fun r w'=>r=.returned (.tuple #[jy e,.bool false])∧ie W w'):=af (fun W=>by
    have:=nY e t1 ((q.1:Int) % 10) W h1
    unfold qR at this
    rw[hg1] at this
    exact this)
   unfold kT ji
   rw[←hc]
   refine (zL _ _ _ _ _ _ _ _ _ _ _ _ _ _ _ _ k (c - 97) g (dw t1) (dC t1) (dw t2) (dC t2) _ _ _ w H1).mono ?_
   rintro r w' ⟨rfl,hg⟩
   exact⟨⟨e,by rw[hn];rfl,fun e2 h=>by rw[hn] at h;cases h⟩,hg⟩
  |some e1=>
   have hn:gb e c t1 t2 q=jK e1 t2 q.2.1:=by rw[hgo,hg1];rfl
   have H1:Hid (∀ W,Calls Tryz.prog 151 #[jy e,.agg #[.int .i64 (dw t1),.int .i64 (dC t1)],.int .i64 ((q.1:Int) % 10)] W fun r w'=>r=.returned (.tuple #[jy e1,.bool true])∧ie W w'):=af (fun W=>by
    have:=nY e t1 ((q.1:Int) % 10) W h1
    unfold qR at this
    rw[hg1] at this
    exact this)
   have H2:Hid (∀ W,Calls Tryz.prog 151 #[jy e1,.agg #[.int .i64 (dw t2),.int .i64 (dC t2)],.int .i64 q.2.1] W fun r w'=>r=.returned (.tuple #[jy ((jK e1 t2 q.2.1).getD e1),.bool (jK e1 t2 q.2.1).isSome])∧ie W w'):=af (fun W=>nY e1 t2 q.2.1 W h2)
   unfold kT ji
   rw[←hc]
   refine (zG _ _ _ _ _ _ _ _ _ _ _ _ _ _ _ _ _ _ _ _ _ _ _ _ _ k (c - 97) g (dw t1) (dC t1) (dw t2) (dC t2) _ _ _ w H1 H2).mono ?_
   rintro r w' ⟨rfl,hg⟩
   refine⟨⟨(jK e1 t2 q.2.1).getD e1,by rw[hn];rfl,fun e2 h=>?_⟩,hg⟩
   rw[hn] at h
   rw[h];rfl
 ·have hgo:gb e c t1 t2 q=none:=by unfold gb;rw[if_neg hc]
  refine (CA _ _ _ _ _ _ _ _ k (c - 97) g (dw t1) (dC t1) (dw t2) (dC t2) _ _ _ _ w (fun h=>hc h.symm)).mono ?_
  rintro r w' ⟨rfl,hg⟩
  exact⟨⟨e,by rw[hgo];rfl,fun e2 h=>by rw[hgo] at h;cases h⟩,hg⟩
end Go.Proofs.YthlhbjnkohinmaaGreat
