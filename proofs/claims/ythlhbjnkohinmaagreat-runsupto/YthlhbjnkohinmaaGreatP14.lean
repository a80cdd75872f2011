import Derived.Test.YthlhbjnkohinmaaGreatP11
import Derived.Test.YthlhbjnkohinmaaGreatP05
import Derived.Test.YthlhbjnkohinmaaGreatP09
import Derived.Test.YthlhbjnkohinmaaGreatP08
namespace Go.Proofs.YthlhbjnkohinmaaGreat
set_option maxRecDepth 100000
set_option maxHeartbeats 8000000
open Go.RowKit
abbrev fu:=Nat→Option Int
def jN (e:fu)(t d:Int):Option fu:=
 if t=95 then some e
 else if bN t then (if t - 48=d then some e else none)
 else match e (t - 119).toNat with
  |none=>some (cI e (t - 119).toNat (some d))
  |some v=>if v=d then some e else none
def fW (e:fu)(c t1 t2:Int)(q:aw):Option fu:=
 if c - 97=(q.1:Int) / 10 then (jN e t1 ((q.1:Int) % 10)).bind fun e1=>jN e1 t2 q.2.1 else none
def fG (z:Int)(e:fu)(t:Int):Int:=if bN t then t - 48 else (e (t - 119).toNat).getD z
def iz (g a b:Int):Bool:=if g=60 then decide (a<b) else if g=61 then decide (a=b) else decide (a≠b)
structure In where
 rule:Nat
 facts:List aw
 env:fu
def In.start (r:Nat):In:=⟨r,[],fun _=>none⟩
def iN (F:List aw)(c t1 t2:Int)(i:In):List In:=F.filterMap fun q=>(fW i.env c t1 t2 q).map fun e=>⟨i.rule,i.facts++[q],e⟩
def fR (F:List aw)(e:fu)(c t1 t2:Int):Bool:=F.all fun q=>(fW e c t1 t2 q).isNone
def kL (z:Int)(s:ByteArray)(F:List aw)(l:List In)(p:Nat):List In:=
 if bt s p=33 then l.filter fun i=>fR F i.env (bt s (p+1)) (bt s (p+2)) (bt s (p+3))
 else if aR (bt s p) then l.flatMap (iN F (bt s p) (bt s (p+1)) (bt s (p+2)))
 else l.filter fun i=>iz (bt s (p+1)) (fG z i.env (bt s p)) (fG z i.env (bt s (p+2)))
def dC (z:Int)(s:ByteArray)(F:List aw)(r:Nat)(L:List Nat):List In:=L.foldl (kL z s F) [In.start r]
def bA (z:Int)(s:ByteArray)(F:List aw)(R:List ay)(n:Nat):List In:=(List.range n).flatMap fun r=>dC z s F r (R.getD r (0,[],[])).2.1
theorem gi (z:Int)(s:ByteArray)(F:List aw)(R:List ay)(n:Nat):bA z s F R (n+1)=bA z s F R n++dC z s F n (R.getD n (0,[],[])).2.1:=by
 unfold bA
 rw[List.range_succ,List.flatMap_append]
 simp
theorem lw (F:List aw)(c t1 t2:Int)(i:In):(iN F c t1 t2 i).length≤F.length:=List.length_filterMap_le _ _
theorem ib {α β:Type}{f:α→List β}{m:Nat}(h:∀ a,(f a).length≤m):∀ l:List α,(l.flatMap f).length≤l.length*m
 |[]=>by simp
 |a::l=>by
  have:=ib h l
  have h2:=h a
  rw[List.flatMap_cons,List.length_append,List.length_cons,Nat.add_mul]
  omega
theorem EQ (z:Int)(s:ByteArray)(F:List aw)(hF:F.length≤60)(l:List In)(p:Nat):(kL z s F l p).length≤l.length*60:=by
 unfold kL
 split
 ·have:=List.length_filter_le (fun i:In=>fR F i.env (bt s (p+1)) (bt s (p+2)) (bt s (p+3))) l
  omega
 ·split
  ·exact ib (fun i=>Nat.le_trans (lw F _ _ _ i) hF) l
  ·have:=List.length_filter_le (fun i:In=>iz (bt s (p+1)) (fG z i.env (bt s p)) (fG z i.env (bt s (p+2)))) l
   omega
structure qf (F:List aw)(i:In):Prop where
 facts:∀ q∈i.facts,q∈F
 env:∀ n v,i.env n=some v→0≤v∧v≤9
def re (F:List aw):Prop:=∀ q∈F,q.1<60∧0≤q.2.1∧q.2.1≤9
theorem yi {e e':fu}{t d:Int}(h:jN e t d=some e')(he:∀ n v,e n=some v→0≤v∧v≤9)(hd:0≤d∧d≤9):∀ n v,e' n=some v→0≤v∧v≤9:=by
 unfold jN at h
 split at h
 ·cases h;exact he
 ·split at h
  ·split at h
   ·cases h;exact he
   ·cases h
  ·split at h
   ·cases h
    intro n v hv
    unfold cI at hv
    split at hv
    ·cases hv;exact hd
    ·exact he n v hv
   ·split at h
    ·cases h;exact he
    ·cases h
theorem FE {e e':fu}{c t1 t2:Int}{q:aw}(h:fW e c t1 t2 q=some e')(he:∀ n v,e n=some v→0≤v∧v≤9)(hq:q.1<60∧0≤q.2.1∧q.2.1≤9):∀ n v,e' n=some v→0≤v∧v≤9:=by
 unfold fW at h
 split at h
 ·cases h1:jN e t1 ((q.1:Int) % 10) with
  |none=>rw[h1] at h;cases h
  |some e1=>
   rw[h1] at h
   exact yi h (yi h1 he (by omega)) hq.2
 ·cases h
theorem FT {F:List aw}(hF:re F){c t1 t2:Int}{i:In}(hi:qf F i):∀ j∈iN F c t1 t2 i,qf F j:=by
 intro j hj
 unfold iN at hj
 obtain⟨q,hq,hm⟩:=List.mem_filterMap.mp hj
 cases hg:fW i.env c t1 t2 q with
 |none=>rw[hg] at hm;cases hm
 |some e=>
  rw[hg] at hm
  simp only[Option.map_some,Option.some.injEq] at hm
  rw[←hm]
  refine⟨fun x hx=>?_,FE hg hi.env (hF q hq)⟩
  rcases List.mem_append.mp hx with hx|hx
  ·exact hi.facts x hx
  ·simp at hx;rw[hx];exact hq
theorem Da {z:Int}{s:ByteArray}{F:List aw}(hF:re F){l:List In}(hl:∀ i∈l,qf F i)(p:Nat):∀ j∈kL z s F l p,qf F j:=by
 intro j hj
 unfold kL at hj
 split at hj
 ·exact hl j (List.mem_filter.mp hj).1
 ·split at hj
  ·obtain⟨i,hi,hm⟩:=List.mem_flatMap.mp hj
   exact FT hF (hl i hi) j hm
  ·exact hl j (List.mem_filter.mp hj).1
theorem vX (F:List aw)(r:Nat):qf F (In.start r):=⟨(by intro q hq;cases hq),(by intro n v hv;cases hv)⟩
variable {α:Type}
def fN (lt:α→α→Bool)(x:α):List α→List α
 |[]=>[x]
 |y::r=>if lt x y then x::y::r else y::fN lt x r
def bL (lt:α→α→Bool)(l:List α):List α:=l.foldl (fun out x=>fN lt x out) []
def kK (lt:α→α→Bool):List α→List α→List α
 |[],B=>B
 |a::A,[]=>a::A
 |a::A,b::B=>if lt b a then b::kK lt (a::A) B else a::kK lt A (b::B)
structure xl (lt:α→α→Bool):Prop where
 trans:∀ {a b c},lt a b=true→lt b c=true→lt a c=true
 neg:∀ {a b c},lt a b=false→lt b c=false→lt a c=false
 irr:∀ a,lt a a=false
theorem pa (lt:α→α→Bool)(A:List α):kK lt A []=A:=by cases A <;> simp[kK]
theorem zi (lt:α→α→Bool)(x:α):∀ A,kK lt A [x]=fN lt x A
 |[]=>by simp[kK,fN]
 |a::A=>by
  rw[kK,fN]
  by_cases h:lt x a=true
  ·rw[if_pos h,if_pos h,pa]
  ·rw[if_neg h,if_neg h,zi lt x A]
theorem sS {lt:α→α→Bool}(hw:xl lt)(x:α):∀ A B,kK lt A (fN lt x B)=fN lt x (kK lt A B)
 |[],B=>by simp[kK]
 |a::A,[]=>by rw[pa];exact zi lt x (a::A)
 |a::A,b::B=>by
  have i1:=sS hw x (a::A) B
  have i2:=sS hw x A (b::B)
  have e1:fN lt x (b::B)=if lt x b then x::b::B else b::fN lt x B:=rfl
  have e2:kK lt (a::A) (b::B)=if lt b a then b::kK lt (a::A) B else a::kK lt A (b::B):=by rw[kK]
  by_cases h1:lt b a=true
  ·rw[e2,if_pos h1]
   by_cases h2:lt x b=true
   ·rw[e1,if_pos h2,fN,if_pos h2,kK,if_pos (hw.trans h2 h1),e2,if_pos h1]
   ·rw[e1,if_neg h2,fN,if_neg h2,kK,if_pos h1,i1]
  ·rw[e2,if_neg h1]
   by_cases h2:lt x b=true
   ·rw[e1,if_pos h2,fN]
    rw[kK]
    by_cases h3:lt x a=true
    ·rw[if_pos h3,if_pos h3,e2,if_neg h1]
    ·rw[if_neg h3,if_neg h3]
     rw[e1,if_pos h2] at i2
     rw[i2]
   ·have h3:¬lt x a=true:=by
     have:=hw.neg (a:=x) (b:=b) (c:=a) (by simpa using h2) (by simpa using h1)
     simp[this]
    rw[e1,if_neg h2] at i2 ⊢
    rw[fN,if_neg h3,kK,if_neg h1,i2]
theorem Ai {lt:α→α→Bool}(hw:xl lt)(l1 l2:List α):kK lt (bL lt l1) (bL lt l2)=bL lt (l1++l2):=by
 have key:∀ (n:Nat) (l2:List α),l2.length=n→kK lt (bL lt l1) (bL lt l2)=bL lt (l1++l2):=by
  intro n
  induction n with
  |zero=>
   intro l2 h
   have:l2=[]:=List.length_eq_zero_iff.mp h
   subst this
   simp[bL,pa]
  |succ n ih=>
   intro l2 h
   rcases List.eq_nil_or_concat l2 with rfl|⟨l,x,rfl⟩
   ·simp at h
   ·have hl:l.length=n:=by simpa using h
    have e1:bL lt (l.concat x)=fN lt x (bL lt l):=by simp[bL]
    have e2:bL lt (l1++l.concat x)=fN lt x (bL lt (l1++l)):=by
     rw[List.concat_eq_append,←List.append_assoc]
     simp[bL]
    rw[e1,e2,sS hw,ih l hl]
 exact key _ l2 rfl
def mn (lt:α→α→Bool)(l:List α):Prop:=l.Pairwise fun a b=>lt b a=false
theorem pm {lt:α→α→Bool}{x z:α}:∀ {l:List α},z∈fN lt x l↔z=x∨z∈l
 |[]=>by simp[fN]
 |y::r=>by
  rw[fN]
  split
  ·simp
  ·simp[pm (l:=r)]
   constructor
   ·rintro (h|h|h) <;> simp[h]
   ·rintro (h|h|h) <;> simp[h]
theorem oJ {lt:α→α→Bool}(hw:xl lt)(x:α):∀ {l:List α},mn lt l→mn lt (fN lt x l)
 |[],_=>by simp[fN,mn]
 |y::r,h=>by
  have h':=List.pairwise_cons.mp h
  rw[fN]
  by_cases e:lt x y=true
  ·rw[if_pos e]
   refine List.pairwise_cons.mpr ⟨fun z hz=>?_,h⟩
   cases hzx:lt z x with
   |false=>rfl
   |true=>
    have:=hw.trans hzx e
    rcases List.mem_cons.mp hz with rfl|hz
    ·rw[hw.irr] at this;cases this
    ·rw[h'.1 z hz] at this;cases this
  ·rw[if_neg e]
   refine List.pairwise_cons.mpr ⟨fun z hz=>?_,oJ hw x h'.2⟩
   rcases pm.mp hz with rfl|hz
   ·simpa using e
   ·exact h'.1 z hz
theorem zh {lt:α→α→Bool}(hw:xl lt)(x:α):∀ (O:List α) (k:Nat),k≤O.length→mn lt O→(∀ b∈O.drop k,lt x b=true)→(k=0∨∃ h:k - 1<O.length,lt x O[k - 1]=false)→fN lt x O=O.take k++x::O.drop k
 |[],k,hk,_,_,_=>by
  have:k=0:=by simpa using hk
  subst this
  rfl
 |o::r,0,_,_,h1,_=>by
  have:=h1 o (by simp)
  simp[fN,this]
 |o::r,m+1,hk,hs,h1,h2=>by
  have hs':=List.pairwise_cons.mp hs
  have hxo:lt x o=false:=by
   rcases h2 with h|⟨h,e⟩
   ·omega
   ·cases m with
    |zero=>simpa using e
    |succ m=>
     have hm:m<r.length:=by simp at h;omega
     have e':lt x r[m]=false:=by simpa using e
     exact hw.neg e' (hs'.1 r[m] (List.getElem_mem hm))
  rw[fN,if_neg (by simp[hxo])]
  rw[zh hw x r m (by simpa using hk) hs'.2 (fun b hb=>h1 b (by simpa using hb)) ?_]
  ·simp
  ·cases m with
   |zero=>exact .inl rfl
   |succ m=>
    right
    rcases h2 with h|⟨h,e⟩
    ·omega
    ·have hm:m<r.length:=by simp at h;omega
     exact⟨by simpa using hm,by simpa using e⟩
theorem pX {lt:α→α→Bool}(l:List α)(x:α):bL lt (l++[x])=fN lt x (bL lt l):=by simp[bL]
theorem tn {lt:α→α→Bool}(hw:xl lt)(l:List α):mn lt (bL lt l):=by
 have key:∀ (l:List α) (out:List α),mn lt out→mn lt (l.foldl (fun out x=>fN lt x out) out):=by
  intro l
  induction l with
  |nil=>intro out h;exact h
  |cons x l ih=>intro out h;exact ih _ (oJ hw x h)
 exact key l [] List.Pairwise.nil
theorem lz {lt:α→α→Bool}{z:α}:∀ {l:List α},z∈bL lt l↔z∈l:=by
 have key:∀ (l out:List α),z∈l.foldl (fun out x=>fN lt x out) out↔z∈l∨z∈out:=by
  intro l
  induction l with
  |nil=>intro out;simp
  |cons x l ih=>
   intro out
   rw[List.foldl_cons,ih,pm]
   simp
   constructor
   ·rintro (h|h|h) <;> simp[h]
   ·rintro ((h|h)|h) <;> simp[h]
 intro l
 have:=key l []
 simpa [bL] using this
theorem vu {lt:α→α→Bool}(x:α):∀ l:List α,(fN lt x l).length=l.length+1
 |[]=>rfl
 |y::r=>by
  rw[fN]
  split
  ·simp
  ·simp[vu x r]
theorem dQ {lt:α→α→Bool}(l:List α):(bL lt l).length=l.length:=by
 have key:∀ (l out:List α),(l.foldl (fun out x=>fN lt x out) out).length=l.length+out.length:=by
  intro l
  induction l with
  |nil=>intro out;simp
  |cons x l ih=>intro out;rw[List.foldl_cons,ih,vu];simp;omega
 have:=key l []
 simpa [bL] using this
theorem bm {w:World}{o:Obj}{n:Nat}(h:n=w.heap.size):(w.alloc o).heap[n]?=some o:=by subst h;exact heap_alloc_new w o
def dI (e:fu)(n:Nat):Int:=(e n).getD 0
def dB (e:fu)(n:Nat):Bool:=(e n).isSome
def jq (e:fu):Value:=.agg #[.bool (dB e 0),.bool (dB e 1),.bool (dB e 2),.bool (dB e 3),.int .i64 (dI e 0),.int .i64 (dI e 1),.int .i64 (dI e 2),.int .i64 (dI e 3)]
def id (w w':World):Prop:=∃ o1 o2 o3 n,w'=(((w.alloc o1).alloc o2).alloc o3).drewN n
theorem FJ (e:fu)(n:Nat)(d:Int)(j:Nat):dI (cI e n (some d)) j=if j=n then d else dI e j:=by
 unfold dI cI
 split <;> rfl
theorem FR (e:fu)(n:Nat)(d:Int)(j:Nat):dB (cI e n (some d)) j=if j=n then true else dB e j:=by
 unfold dB cI
 split <;> rfl
theorem uw (b0 b1 b2 b3:Bool)(d0 d1 d2 d3 v x:Int)(w:World):
  Calls Tryz.prog 151 #[.agg #[.bool b0,.bool b1,.bool b2,.bool b3,.int .i64 d0,.int .i64 d1,.int .i64 d2,.int .i64 d3],.agg #[.int .i64 0,.int .i64 v],.int .i64 x] w fun r w'=>r=.returned (.tuple #[.agg #[.bool b0,.bool b1,.bool b2,.bool b3,.int .i64 d0,.int .i64 d1,.int .i64 d2,.int .i64 d3],.bool true])∧id w w':=by
 go_enter Tryz.func151,Tryz.ntmps151
 go_wp2_with fail
 refine bodyPost_ret (aO Tryz.results151 rfl (bm (by simp)) Tryz.underlying174 rfl (by kernel_rfl) rfl) rfl ⟨rfl,?_⟩
 exact⟨_,_,_,0,rfl⟩
theorem AM (b0 b1 b2 b3:Bool)(d0 d1 d2 d3 v x:Int)(w:World):
  Calls Tryz.prog 151 #[.agg #[.bool b0,.bool b1,.bool b2,.bool b3,.int .i64 d0,.int .i64 d1,.int .i64 d2,.int .i64 d3],.agg #[.int .i64 1,.int .i64 v],.int .i64 x] w fun r w'=>r=.returned (.tuple #[.agg #[.bool b0,.bool b1,.bool b2,.bool b3,.int .i64 d0,.int .i64 d1,.int .i64 d2,.int .i64 d3],.bool (v==x)])∧id w w':=by
 go_enter Tryz.func151,Tryz.ntmps151
 go_wp2_with fail
 go_region
 all_goals go_wp2_with fail
 all_goals (refine bodyPost_ret (aO Tryz.results151 rfl (bm (by simp)) Tryz.underlying174 rfl (by kernel_rfl) rfl) rfl ⟨rfl,?_⟩)
 all_goals first
  |exact⟨_,_,_,0,rfl⟩
  |exact⟨_,_,_,1,rfl⟩
theorem wV (b0 b1 b2 b3:Bool)(d0 d1 d2 d3 x:Int)(w:World)(hb:b0=true):
  Calls Tryz.prog 151 #[.agg #[.bool b0,.bool b1,.bool b2,.bool b3,.int .i64 d0,.int .i64 d1,.int .i64 d2,.int .i64 d3],.agg #[.int .i64 2,.int .i64 0],.int .i64 x] w fun r w'=>r=.returned (.tuple #[.agg #[.bool b0,.bool b1,.bool b2,.bool b3,.int .i64 d0,.int .i64 d1,.int .i64 d2,.int .i64 d3],.bool (d0==x)])∧id w w':=by
 subst hb
 go_enter Tryz.func151,Tryz.ntmps151
 go_wp2_with fail
 go_region
 all_goals go_wp2_with fail
 all_goals (refine bodyPost_ret (aO Tryz.results151 rfl (bm (by simp)) Tryz.underlying174 rfl (by kernel_rfl) rfl) rfl ⟨rfl,?_⟩)
 all_goals first
  |exact⟨_,_,_,0,rfl⟩
  |exact⟨_,_,_,1,rfl⟩
theorem xO (b0 b1 b2 b3:Bool)(d0 d1 d2 d3 x:Int)(w:World)(hb:b0=false):
  Calls Tryz.prog 151 #[.agg #[.bool b0,.bool b1,.bool b2,.bool b3,.int .i64 d0,.int .i64 d1,.int .i64 d2,.int .i64 d3],.agg #[.int .i64 2,.int .i64 0],.int .i64 x] w fun r w'=>r=.returned (.tuple #[.agg #[.bool true,.bool b1,.bool b2,.bool b3,.int .i64 x,.int .i64 d1,.int .i64 d2,.int .i64 d3],.bool true])∧id w w':=by
 subst hb
 go_enter Tryz.func151,Tryz.ntmps151
 go_wp2_with fail
 refine bodyPost_ret (aO Tryz.results151 rfl (bm (by simp)) Tryz.underlying174 rfl (by kernel_rfl) rfl) rfl ⟨rfl,?_⟩
 exact⟨_,_,_,0,rfl⟩
theorem xa (b0 b1 b2 b3:Bool)(d0 d1 d2 d3 x:Int)(w:World)(hb:b1=true):
  Calls Tryz.prog 151 #[.agg #[.bool b0,.bool b1,.bool b2,.bool b3,.int .i64 d0,.int .i64 d1,.int .i64 d2,.int .i64 d3],.agg #[.int .i64 2,.int .i64 1],.int .i64 x] w fun r w'=>r=.returned (.tuple #[.agg #[.bool b0,.bool b1,.bool b2,.bool b3,.int .i64 d0,.int .i64 d1,.int .i64 d2,.int .i64 d3],.bool (d1==x)])∧id w w':=by
 subst hb
 go_enter Tryz.func151,Tryz.ntmps151
 go_wp2_with fail
 go_region
 all_goals go_wp2_with fail
 all_goals (refine bodyPost_ret (aO Tryz.results151 rfl (bm (by simp)) Tryz.underlying174 rfl (by kernel_rfl) rfl) rfl ⟨rfl,?_⟩)
 all_goals first
  |exact⟨_,_,_,0,rfl⟩
  |exact⟨_,_,_,1,rfl⟩
theorem xj (b0 b1 b2 b3:Bool)(d0 d1 d2 d3 x:Int)(w:World)(hb:b1=false):
  Calls Tryz.prog 151 #[.agg #[.bool b0,.bool b1,.bool b2,.bool b3,.int .i64 d0,.int .i64 d1,.int .i64 d2,.int .i64 d3],.agg #[.int .i64 2,.int .i64 1],.int .i64 x] w fun r w'=>r=.returned (.tuple #[.agg #[.bool b0,.bool true,.bool b2,.bool b3,.int .i64 d0,.int .i64 x,.int .i64 d2,.int .i64 d3],.bool true])∧id w w':=by
 subst hb
 go_enter Tryz.func151,Tryz.ntmps151
 go_wp2_with fail
 refine bodyPost_ret (aO Tryz.results151 rfl (bm (by simp)) Tryz.underlying174 rfl (by kernel_rfl) rfl) rfl ⟨rfl,?_⟩
 exact⟨_,_,_,0,rfl⟩
theorem wS (b0 b1 b2 b3:Bool)(d0 d1 d2 d3 x:Int)(w:World)(hb:b2=true):
  Calls Tryz.prog 151 #[.agg #[.bool b0,.bool b1,.bool b2,.bool b3,.int .i64 d0,.int .i64 d1,.int .i64 d2,.int .i64 d3],.agg #[.int .i64 2,.int .i64 2],.int .i64 x] w fun r w'=>r=.returned (.tuple #[.agg #[.bool b0,.bool b1,.bool b2,.bool b3,.int .i64 d0,.int .i64 d1,.int .i64 d2,.int .i64 d3],.bool (d2==x)])∧id w w':=by
 subst hb
 go_enter Tryz.func151,Tryz.ntmps151
 go_wp2_with fail
 go_region
 all_goals go_wp2_with fail
 all_goals (refine bodyPost_ret (aO Tryz.results151 rfl (bm (by simp)) Tryz.underlying174 rfl (by kernel_rfl) rfl) rfl ⟨rfl,?_⟩)
 all_goals first
  |exact⟨_,_,_,0,rfl⟩
  |exact⟨_,_,_,1,rfl⟩
theorem xY (b0 b1 b2 b3:Bool)(d0 d1 d2 d3 x:Int)(w:World)(hb:b2=false):
  Calls Tryz.prog 151 #[.agg #[.bool b0,.bool b1,.bool b2,.bool b3,.int .i64 d0,.int .i64 d1,.int .i64 d2,.int .i64 d3],.agg #[.int .i64 2,.int .i64 2],.int .i64 x] w fun r w'=>r=.returned (.tuple #[.agg #[.bool b0,.bool b1,.bool true,.bool b3,.int .i64 d0,.int .i64 d1,.int .i64 x,.int .i64 d3],.bool true])∧id w w':=by
 subst hb
 go_enter Tryz.func151,Tryz.ntmps151
 go_wp2_with fail
 refine bodyPost_ret (aO Tryz.results151 rfl (bm (by simp)) Tryz.underlying174 rfl (by kernel_rfl) rfl) rfl ⟨rfl,?_⟩
 exact⟨_,_,_,0,rfl⟩
theorem xw (b0 b1 b2 b3:Bool)(d0 d1 d2 d3 x:Int)(w:World)(hb:b3=true):
  Calls Tryz.prog 151 #[.agg #[.bool b0,.bool b1,.bool b2,.bool b3,.int .i64 d0,.int .i64 d1,.int .i64 d2,.int .i64 d3],.agg #[.int .i64 2,.int .i64 3],.int .i64 x] w fun r w'=>r=.returned (.tuple #[.agg #[.bool b0,.bool b1,.bool b2,.bool b3,.int .i64 d0,.int .i64 d1,.int .i64 d2,.int .i64 d3],.bool (d3==x)])∧id w w':=by
 subst hb
 go_enter Tryz.func151,Tryz.ntmps151
 go_wp2_with fail
 go_region
 all_goals go_wp2_with fail
 all_goals (refine bodyPost_ret (aO Tryz.results151 rfl (bm (by simp)) Tryz.underlying174 rfl (by kernel_rfl) rfl) rfl ⟨rfl,?_⟩)
 all_goals first
  |exact⟨_,_,_,0,rfl⟩
  |exact⟨_,_,_,1,rfl⟩
theorem ya (b0 b1 b2 b3:Bool)(d0 d1 d2 d3 x:Int)(w:World)(hb:b3=false):
  Calls Tryz.prog 151 #[.agg #[.bool b0,.bool b1,.bool b2,.bool b3,.int .i64 d0,.int .i64 d1,.int .i64 d2,.int .i64 d3],.agg #[.int .i64 2,.int .i64 3],.int .i64 x] w fun r w'=>r=.returned (.tuple #[.agg #[.bool b0,.bool b1,.bool b2,.bool true,.int .i64 d0,.int .i64 d1,.int .i64 d2,.int .i64 x],.bool true])∧id w w':=by
 subst hb
 go_enter Tryz.func151,Tryz.ntmps151
 go_wp2_with fail
 refine bodyPost_ret (aO Tryz.results151 rfl (bm (by simp)) Tryz.underlying174 rfl (by kernel_rfl) rfl) rfl ⟨rfl,?_⟩
 exact⟨_,_,_,0,rfl⟩
def qR (e:fu)(t d:Int):Value:=.tuple #[jq ((jN e t d).getD e),.bool (jN e t d).isSome]
theorem AI {t:Int}(h:c9 t=true):t=95∨bN t=true∨t=119∨t=120∨t=121∨t=122:=by
 by_cases h1:t=95
 ·exact .inl h1
 ·have h2:be t=true:=by simpa [c9,h1] using h
  cases hd:bN t with
  |true=>exact .inr (.inl rfl)
  |false=>
   have hl:ex t=true:=by simpa [be,hd] using h2
   simp only[ex,decide_eq_true_eq] at hl
   right;right;omega
theorem nN (e:fu)(t d:Int)(w:World)(ht:c9 t=true):
  Calls Tryz.prog 151 #[jq e,.agg #[.int .i64 (dy t),.int .i64 (dE t)],.int .i64 d] w fun r w'=>r=.returned (qR e t d)∧id w w':=by
 rcases AI ht with rfl|hd|hl
 ·have e1:qR e 95 d=.tuple #[jq e,.bool true]:=by simp[qR,jN]
  rw[e1]
  exact uw _ _ _ _ _ _ _ _ _ d w
 ·have k1:dy t=1:=by simp[dy,hd]
  have k2:dE t=t - 48:=by simp[dE,hd]
  have h95:¬t=95:=by rintro rfl;exact absurd hd (by decide)
  have e1:qR e t d=.tuple #[jq e,.bool (t - 48==d)]:=by
   unfold qR jN
   rw[if_neg h95,if_pos hd]
   by_cases hvd:t - 48=d
   ·rw[if_pos hvd];simp[hvd]
   ·rw[if_neg hvd];simp[hvd]
  rw[k1,k2,e1]
  exact AM _ _ _ _ _ _ _ _ _ d w
 ·have hnd:bN t=false:=by rcases hl with rfl|rfl|rfl|rfl <;> rfl
  have h95:¬t=95:=by omega
  have k1:dy t=2:=by rcases hl with rfl|rfl|rfl|rfl <;> rfl
  cases hen:e (t - 119).toNat with
  |some v=>
   have e1:qR e t d=.tuple #[jq e,.bool (dI e (t - 119).toNat==d)]:=by
    have hv:dI e (t - 119).toNat=v:=by unfold dI;rw[hen];rfl
    rw[hv]
    unfold qR jN
    rw[if_neg h95,if_neg (by simp[hnd])]
    simp only[hen]
    by_cases hvd:v=d
    ·rw[if_pos hvd];simp[hvd]
    ·rw[if_neg hvd];simp[hvd]
   have hb:dB e (t - 119).toNat=true:=by unfold dB;rw[hen];rfl
   rw[k1,e1]
   rcases hl with rfl|rfl|rfl|rfl
   ·exact wV _ _ _ _ _ _ _ _ d w hb
   ·exact xa _ _ _ _ _ _ _ _ d w hb
   ·exact wS _ _ _ _ _ _ _ _ d w hb
   ·exact xw _ _ _ _ _ _ _ _ d w hb
  |none=>
   have hgo:jN e t d=some (cI e (t - 119).toNat (some d)):=by
    unfold jN
    rw[if_neg h95,if_neg (by simp[hnd])]
    simp only[hen]
   have e1:qR e t d=.tuple #[jq (cI e (t - 119).toNat (some d)),.bool true]:=by unfold qR;rw[hgo];rfl
   have hb:dB e (t - 119).toNat=false:=by unfold dB;rw[hen];rfl
   rw[k1,e1]
   unfold jq
   simp only[FJ,FR]
   rcases hl with rfl|rfl|rfl|rfl
   ·exact xO _ _ _ _ _ _ _ _ d w hb
   ·exact xj _ _ _ _ _ _ _ _ d w hb
   ·exact xY _ _ _ _ _ _ _ _ d w hb
   ·exact ya _ _ _ _ _ _ _ _ d w hb
theorem Dn (a0 a1 a2 a3:Bool)(a4 a5 a6 a7:Int)(k c s p1 p2 q1 q2 x0 x1 x2 x3:Int)(w:World)(hc:x0≠c):
  Calls Tryz.prog 144 #[.agg #[.bool a0,.bool a1,.bool a2,.bool a3,.int .i64 a4,.int .i64 a5,.int .i64 a6,.int .i64 a7],.agg #[.int .i64 k,.int .i64 c,.int .u8 s,.int .i64 p1,.int .i64 p2,.int .i64 q1,.int .i64 q2],.agg #[.int .i64 x0,.int .i64 x1,.int .i64 x2,.int .i64 x3]] w fun r w'=>r=.returned (.tuple #[.agg #[.bool a0,.bool a1,.bool a2,.bool a3,.int .i64 a4,.int .i64 a5,.int .i64 a6,.int .i64 a7],.bool false])∧w.grownBy w' none:=by
 have qc:(x0 != c)=true:=by simpa using hc
 go_enter Tryz.func144,Tryz.ntmps144
 go_wp2_with fail
 refine bodyPost_ret (aO Tryz.results144 rfl (bm (by simp)) Tryz.underlying174 rfl (by kernel_rfl) rfl) rfl ⟨rfl,?_⟩
 exact ab (ab (ab (ab (ag _ _) _) _) _) _
theorem AO (a0 a1 a2 a3:Bool)(a4 a5 a6 a7:Int)(f0 f1 f2 f3:Bool)(f4 f5 f6 f7:Int)(k c s p1 p2 q1 q2 x1 x2 x3:Int)(w:World)
  (H1:Hid (∀ W,Calls Tryz.prog 151 #[.agg #[.bool a0,.bool a1,.bool a2,.bool a3,.int .i64 a4,.int .i64 a5,.int .i64 a6,.int .i64 a7],.agg #[.int .i64 p1,.int .i64 p2],.int .i64 x1] W fun r w'=>r=.returned (.tuple #[.agg #[.bool f0,.bool f1,.bool f2,.bool f3,.int .i64 f4,.int .i64 f5,.int .i64 f6,.int .i64 f7],.bool false])∧id W w')) :
  Calls Tryz.prog 144 #[.agg #[.bool a0,.bool a1,.bool a2,.bool a3,.int .i64 a4,.int .i64 a5,.int .i64 a6,.int .i64 a7],.agg #[.int .i64 k,.int .i64 c,.int .u8 s,.int .i64 p1,.int .i64 p2,.int .i64 q1,.int .i64 q2],.agg #[.int .i64 c,.int .i64 x1,.int .i64 x2,.int .i64 x3]] w fun r w'=>r=.returned (.tuple #[.agg #[.bool a0,.bool a1,.bool a2,.bool a3,.int .i64 a4,.int .i64 a5,.int .i64 a6,.int .i64 a7],.bool false])∧w.grownBy w' none:=by
 have qc:(c != c)=false:=by simp
 have HRB:Hid (∀ o1 o2 o3 n,((((((((w.alloc (.cells #[.bool a0,.bool a1,.bool a2,.bool a3,.int .i64 a4,.int .i64 a5,.int .i64 a6,.int .i64 a7] 174)).alloc (.cells #[.int .i64 k,.int .i64 c,.int .u8 s,.int .i64 p1,.int .i64 p2,.int .i64 q1,.int .i64 q2] 206)).alloc (.cells #[.int .i64 c,.int .i64 x1,.int .i64 x2,.int .i64 x3] 114)).alloc (.cells #[.bool false,.bool false,.bool false,.bool false,.int .i64 0,.int .i64 0,.int .i64 0,.int .i64 0] 174)).alloc o1).alloc o2).alloc o3).drewN n).heap[w.heap.size+1+1+1]?=some (.cells #[.bool false,.bool false,.bool false,.bool false,.int .i64 0,.int .i64 0,.int .i64 0,.int .i64 0] 174 (0,0))):=af (fun o1 o2 o3 n=>by
  show ((((((((w.alloc (.cells #[.bool a0,.bool a1,.bool a2,.bool a3,.int .i64 a4,.int .i64 a5,.int .i64 a6,.int .i64 a7] 174)).alloc (.cells #[.int .i64 k,.int .i64 c,.int .u8 s,.int .i64 p1,.int .i64 p2,.int .i64 q1,.int .i64 q2] 206)).alloc (.cells #[.int .i64 c,.int .i64 x1,.int .i64 x2,.int .i64 x3] 114)).alloc (.cells #[.bool false,.bool false,.bool false,.bool false,.int .i64 0,.int .i64 0,.int .i64 0,.int .i64 0] 174)).alloc o1).alloc o2).alloc o3)).heap[w.heap.size+1+1+1]?=_
  rw[Below.heap_alloc _ _ _ (by first|(simp;done)|(simp;omega)|omega),Below.heap_alloc _ _ _ (by first|(simp;done)|(simp;omega)|omega),Below.heap_alloc _ _ _ (by first|(simp;done)|(simp;omega)|omega)]
  exact bm (by first|rfl|(simp;done)))
 have HLT:Hid (∀ o1 o2 o3 n,w.heap.size+1+1+1<((((((((w.alloc (.cells #[.bool a0,.bool a1,.bool a2,.bool a3,.int .i64 a4,.int .i64 a5,.int .i64 a6,.int .i64 a7] 174)).alloc (.cells #[.int .i64 k,.int .i64 c,.int .u8 s,.int .i64 p1,.int .i64 p2,.int .i64 q1,.int .i64 q2] 206)).alloc (.cells #[.int .i64 c,.int .i64 x1,.int .i64 x2,.int .i64 x3] 114)).alloc (.cells #[.bool false,.bool false,.bool false,.bool false,.int .i64 0,.int .i64 0,.int .i64 0,.int .i64 0] 174)).alloc o1).alloc o2).alloc o3).drewN n).heap.size):=af (fun o1 o2 o3 n=>lt_of_block (HRB.out o1 o2 o3 n))
 go_enter Tryz.func144,Tryz.ntmps144
 go_wp2_with fail
 go_at_call 151
 refine (H1.out _).mono ?_
 rintro e w1 ⟨rfl,o1,o2,o3,n,rfl⟩
 go_wp2_with fail
 refine bodyPost_ret (aO Tryz.results144 rfl ((Below.heap_alloc _ _ _ (lt_of_block (ah (ah (ah (ah (ah (ah (ah (ah (HRB.out o1 o2 o3 n) _ _) _ _) _ _) _ _) _ _) _ _) _ _) _ _))).trans (ah (ah (ah (ah (ah (ah (ah (ah (HRB.out o1 o2 o3 n) _ _) _ _) _ _) _ _) _ _) _ _) _ _) _ _)) Tryz.underlying174 rfl (by kernel_rfl) rfl) rfl ⟨rfl,?_⟩
 exact ab (aj (aj (aj (aj (aj (aj (aj (aj (al (ab (ab (ab (ab (ab (ab (ab (ag _ _) _) _) _) _) _) _) _) n) (.inr (by show w.heap.size≤w.heap.size+1+1+1;omega)) _) (.inr (by show w.heap.size≤w.heap.size+1+1+1;omega)) _) (.inr (by show w.heap.size≤w.heap.size+1+1+1;omega)) _) (.inr (by show w.heap.size≤w.heap.size+1+1+1;omega)) _) (.inr (by show w.heap.size≤w.heap.size+1+1+1;omega)) _) (.inr (by show w.heap.size≤w.heap.size+1+1+1;omega)) _) (.inr (by show w.heap.size≤w.heap.size+1+1+1;omega)) _) (.inr (by show w.heap.size≤w.heap.size+1+1+1;omega)) _) _
theorem Ap (a0 a1 a2 a3:Bool)(a4 a5 a6 a7:Int)(f0 f1 f2 f3:Bool)(f4 f5 f6 f7:Int)(g0 g1 g2 g3:Bool)(g4 g5 g6 g7:Int)(okb:Bool)(k c s p1 p2 q1 q2 x1 x2 x3:Int)(w:World)
  (H1:Hid (∀ W,Calls Tryz.prog 151 #[.agg #[.bool a0,.bool a1,.bool a2,.bool a3,.int .i64 a4,.int .i64 a5,.int .i64 a6,.int .i64 a7],.agg #[.int .i64 p1,.int .i64 p2],.int .i64 x1] W fun r w'=>r=.returned (.tuple #[.agg #[.bool f0,.bool f1,.bool f2,.bool f3,.int .i64 f4,.int .i64 f5,.int .i64 f6,.int .i64 f7],.bool true])∧id W w'))
  (H2:Hid (∀ W,Calls Tryz.prog 151 #[.agg #[.bool f0,.bool f1,.bool f2,.bool f3,.int .i64 f4,.int .i64 f5,.int .i64 f6,.int .i64 f7],.agg #[.int .i64 q1,.int .i64 q2],.int .i64 x2] W fun r w'=>r=.returned (.tuple #[.agg #[.bool g0,.bool g1,.bool g2,.bool g3,.int .i64 g4,.int .i64 g5,.int .i64 g6,.int .i64 g7],.bool okb])∧id W w')) :
  Calls Tryz.prog 144 #[.agg #[.bool a0,.bool a1,.bool a2,.bool a3,.int .i64 a4,.int .i64 a5,.int .i64 a6,.int .i64 a7],.agg #[.int .i64 k,.int .i64 c,.int .u8 s,.int .i64 p1,.int .i64 p2,.int .i64 q1,.int .i64 q2],.agg #[.int .i64 c,.int .i64 x1,.int .i64 x2,.int .i64 x3]] w fun r w'=>r=.returned (.tuple #[.agg #[.bool g0,.bool g1,.bool g2,.bool g3,.int .i64 g4,.int .i64 g5,.int .i64 g6,.int .i64 g7],.bool okb])∧w.grownBy w' none:=by
 have qc:(c != c)=false:=by simp
 have HRB:Hid (∀ o1 o2 o3 n o4 o5 o6 o7 m,(((((((((((((w.alloc (.cells #[.bool a0,.bool a1,.bool a2,.bool a3,.int .i64 a4,.int .i64 a5,.int .i64 a6,.int .i64 a7] 174)).alloc (.cells #[.int .i64 k,.int .i64 c,.int .u8 s,.int .i64 p1,.int .i64 p2,.int .i64 q1,.int .i64 q2] 206)).alloc (.cells #[.int .i64 c,.int .i64 x1,.int .i64 x2,.int .i64 x3] 114)).alloc (.cells #[.bool false,.bool false,.bool false,.bool false,.int .i64 0,.int .i64 0,.int .i64 0,.int .i64 0] 174)).alloc o1).alloc o2).alloc o3).drewN n).alloc o4).alloc o5).alloc o6).alloc o7).drewN m).heap[w.heap.size+1+1+1]?=some (.cells #[.bool false,.bool false,.bool false,.bool false,.int .i64 0,.int .i64 0,.int .i64 0,.int .i64 0] 174 (0,0))):=af (fun o1 o2 o3 n o4 o5 o6 o7 m=>by
  show ((((((((((((w.alloc (.cells #[.bool a0,.bool a1,.bool a2,.bool a3,.int .i64 a4,.int .i64 a5,.int .i64 a6,.int .i64 a7] 174)).alloc (.cells #[.int .i64 k,.int .i64 c,.int .u8 s,.int .i64 p1,.int .i64 p2,.int .i64 q1,.int .i64 q2] 206)).alloc (.cells #[.int .i64 c,.int .i64 x1,.int .i64 x2,.int .i64 x3] 114)).alloc (.cells #[.bool false,.bool false,.bool false,.bool false,.int .i64 0,.int .i64 0,.int .i64 0,.int .i64 0] 174)).alloc o1).alloc o2).alloc o3).drewN n).alloc o4).alloc o5).alloc o6).alloc o7).heap[w.heap.size+1+1+1]?=_
  rw[Below.heap_alloc _ _ _ (by first|(simp;done)|(simp;omega)|omega),Below.heap_alloc _ _ _ (by first|(simp;done)|(simp;omega)|omega),Below.heap_alloc _ _ _ (by first|(simp;done)|(simp;omega)|omega),Below.heap_alloc _ _ _ (by first|(simp;done)|(simp;omega)|omega)]
  show ((((((((w.alloc (.cells #[.bool a0,.bool a1,.bool a2,.bool a3,.int .i64 a4,.int .i64 a5,.int .i64 a6,.int .i64 a7] 174)).alloc (.cells #[.int .i64 k,.int .i64 c,.int .u8 s,.int .i64 p1,.int .i64 p2,.int .i64 q1,.int .i64 q2] 206)).alloc (.cells #[.int .i64 c,.int .i64 x1,.int .i64 x2,.int .i64 x3] 114)).alloc (.cells #[.bool false,.bool false,.bool false,.bool false,.int .i64 0,.int .i64 0,.int .i64 0,.int .i64 0] 174)).alloc o1).alloc o2).alloc o3)).heap[w.heap.size+1+1+1]?=_
  rw[Below.heap_alloc _ _ _ (by first|(simp;done)|(simp;omega)|omega),Below.heap_alloc _ _ _ (by first|(simp;done)|(simp;omega)|omega),Below.heap_alloc _ _ _ (by first|(simp;done)|(simp;omega)|omega)]
  exact bm (by first|rfl|(simp;done)))
 go_enter Tryz.func144,Tryz.ntmps144
 go_wp2_with fail
 go_at_call 151
 refine (H1.out _).mono ?_
 rintro e w1 ⟨rfl,o1,o2,o3,n,rfl⟩
 go_wp2_with fail
 go_at_call 151
 refine (H2.out _).mono ?_
 rintro e w2 ⟨rfl,o5,o6,o7,m,rfl⟩
 go_wp2_with fail
 refine bodyPost_ret (aO Tryz.results144 rfl (ah (ah (ah (ah (ah (ah (ah (ah (HRB.out o1 o2 o3 n _ o5 o6 o7 m) _ _) _ _) _ _) _ _) _ _) _ _) _ _) _ _) Tryz.underlying174 rfl (by kernel_rfl) rfl) rfl ⟨rfl,?_⟩
 exact (aj (aj (aj (aj (aj (aj (aj (aj (al (ab (ab (ab (ab (al (ab (ab (ab (ab (ab (ab (ab (ag _ _) _) _) _) _) _) _) _) n) _) _) _) _) m) (.inr (by show w.heap.size≤w.heap.size+1+1+1;omega)) _) (.inr (by show w.heap.size≤w.heap.size+1+1+1;omega)) _) (.inr (by show w.heap.size≤w.heap.size+1+1+1;omega)) _) (.inr (by show w.heap.size≤w.heap.size+1+1+1;omega)) _) (.inr (by show w.heap.size≤w.heap.size+1+1+1;omega)) _) (.inr (by show w.heap.size≤w.heap.size+1+1+1;omega)) _) (.inr (by show w.heap.size≤w.heap.size+1+1+1;omega)) _) (.inr (by show w.heap.size≤w.heap.size+1+1+1;omega)) _)
def jp (k c g t1 t2:Int):Value:=.agg #[.int .i64 k,.int .i64 (c - 97),.int .u8 g,.int .i64 (dy t1),.int .i64 (dE t1),.int .i64 (dy t2),.int .i64 (dE t2)]
theorem nQ (e:fu)(k c g t1 t2:Int)(q:aw)(w:World)(h1:c9 t1=true)(h2:c9 t2=true):
  Calls Tryz.prog 144 #[jq e,jp k c g t1 t2,ld q] w fun r w'=>(∃ e',r=.returned (.tuple #[jq e',.bool (fW e c t1 t2 q).isSome])∧∀ e2,fW e c t1 t2 q=some e2→e'=e2)∧w.grownBy w' none:=by
 by_cases hc:c - 97=(q.1:Int) / 10
 ·have hgo:fW e c t1 t2 q=(jN e t1 ((q.1:Int) % 10)).bind fun e1=>jN e1 t2 q.2.1:=by unfold fW;rw[if_pos hc]
  cases hg1:jN e t1 ((q.1:Int) % 10) with
  |none=>
   have hn:fW e c t1 t2 q=none:=by rw[hgo,hg1];rfl
   have H1:Hid (∀ W,Calls Tryz.prog 151 #[jq e,.agg #[.int .i64 (dy t1),.int .i64 (dE t1)],.int .i64 ((q.1:Int) % 10)] W fun r w'=>r=.returned (.tuple #[jq e,.bool false])∧id W w'):=af (fun W=>by
    have:=nN e t1 ((q.1:Int) % 10) W h1
    unfold qR at this
    rw[hg1] at this
    exact this)
   unfold ld jp
   rw[←hc]
   refine (AO _ _ _ _ _ _ _ _ _ _ _ _ _ _ _ _ k (c - 97) g (dy t1) (dE t1) (dy t2) (dE t2) _ _ _ w H1).mono ?_
   rintro r w' ⟨rfl,hg⟩
   exact⟨⟨e,by rw[hn];rfl,fun e2 h=>by rw[hn] at h;cases h⟩,hg⟩
  |some e1=>
   have hn:fW e c t1 t2 q=jN e1 t2 q.2.1:=by rw[hgo,hg1];rfl
   have H1:Hid (∀ W,Calls Tryz.prog 151 #[jq e,.agg #[.int .i64 (dy t1),.int .i64 (dE t1)],.int .i64 ((q.1:Int) % 10)] W fun r w'=>r=.returned (.tuple #[jq e1,.bool true])∧id W w'):=af (fun W=>by
    have:=nN e t1 ((q.1:Int) % 10) W h1
    unfold qR at this
    rw[hg1] at this
    exact this)
   have H2:Hid (∀ W,Calls Tryz.prog 151 #[jq e1,.agg #[.int .i64 (dy t2),.int .i64 (dE t2)],.int .i64 q.2.1] W fun r w'=>r=.returned (.tuple #[jq ((jN e1 t2 q.2.1).getD e1),.bool (jN e1 t2 q.2.1).isSome])∧id W w'):=af (fun W=>nN e1 t2 q.2.1 W h2)
   unfold ld jp
   rw[←hc]
   refine (Ap _ _ _ _ _ _ _ _ _ _ _ _ _ _ _ _ _ _ _ _ _ _ _ _ _ k (c - 97) g (dy t1) (dE t1) (dy t2) (dE t2) _ _ _ w H1 H2).mono ?_
   rintro r w' ⟨rfl,hg⟩
   refine⟨⟨(jN e1 t2 q.2.1).getD e1,by rw[hn];rfl,fun e2 h=>?_⟩,hg⟩
   rw[hn] at h
   rw[h];rfl
 ·have hgo:fW e c t1 t2 q=none:=by unfold fW;rw[if_neg hc]
  refine (Dn _ _ _ _ _ _ _ _ k (c - 97) g (dy t1) (dE t1) (dy t2) (dE t2) _ _ _ _ w (fun h=>hc h.symm)).mono ?_
  rintro r w' ⟨rfl,hg⟩
  exact⟨⟨e,by rw[hgo];rfl,fun e2 h=>by rw[hgo] at h;cases h⟩,hg⟩
end Go.Proofs.YthlhbjnkohinmaaGreat
