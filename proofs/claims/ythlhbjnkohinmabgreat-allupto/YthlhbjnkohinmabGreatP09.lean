import Derived.Test.YthlhbjnkohinmabGreatP00
import Derived.Laws.BytesArg
import Derived.OwnWalk
import Derived.OneCell
namespace Go.Proofs.YthlhbjnkohinmabGreat
set_option maxRecDepth 100000
set_option maxHeartbeats 8000000
open Go.RowKit
def eE (s:ByteArray):Bool:=s.size==2&&aU (bt s 0)&&bM (bt s 1)
def eU (s:ByteArray):Bool:=s.size==3&&aU (bt s 0)&&bM (bt s 1)&&bM (bt s 2)
def ch (l:List ByteArray):ByteArray:=l.foldl (·++·) ByteArray.empty
theorem hJ (l:List ByteArray)(x:ByteArray):ch (l++[x])=ch l++x:=by simp[ch]
abbrev PW:=Option (Option Int)
structure aK where
 num:Int
 snap:Int
 made:Int
 wr:Nat→PW
 tm:Nat→Int
 mks:Option Nat
abbrev Ff:=(Value×Int)×ByteArray×List (Nat×List Nat×List Nat)
structure ap where
 src:Ff
 opened:Int
 ses:Nat→aK
 latest:Int
 last:Nat→Int
 hist:Nat→List (Int×Option Int)
def ap.room (X:ap):Int:=X.src.1.2
def keptN (X:ap):Nat→Nat
 |0=>0
 |n+1=>keptN X n+(X.hist n).length
def cA (S:aK):Nat→Nat
 |0=>0
 |n+1=>cA S n+(if (S.wr n).isSome then 1 else 0)
theorem qk (S:aK):∀ n,cA S n≤n
 |0=>Nat.le_refl 0
 |n+1=>by
  have:=qk S n
  show cA S n+(if (S.wr n).isSome then 1 else 0)≤n+1
  split <;> omega
theorem eH {X Y:ap}(h:Y.hist=X.hist):∀ n,keptN Y n=keptN X n
 |0=>rfl
 |n+1=>by unfold keptN;rw[eH h n,h]
theorem ke (X:ap):∀ {m n:Nat},m≤n→keptN X m≤keptN X n
 |m,0,h=>by
  have:m=0:=by omega
  subst this
  exact Nat.le_refl _
 |m,n+1,h=>by
  by_cases e:m=n+1
  ·subst e;exact Nat.le_refl _
  ·have:=ke X (m:=m) (n:=n) (by omega)
   show keptN X m≤keptN X n+(X.hist n).length
   omega
def aK.zero:aK:=⟨0,0,0,fun _=>none,fun _=>0,none⟩
def aK.new (n t:Int):aK:=⟨n,t,0,fun _=>none,fun _=>0,none⟩
def cI {α:Type}(f:Nat→α)(k:Nat)(v:α):Nat→α:=fun j=>if j=k then v else f j
theorem aW {α:Type}(f:Nat→α)(k:Nat)(v:α):cI f k v k=v:=by simp[cI]
theorem bD {α:Type}(f:Nat→α)(k:Nat)(v:α){j:Nat}(h:j≠k):cI f k v j=f j:=by simp[cI,h]
def ap.setSes (X:ap)(k:Nat)(s:aK):ap:={ X with ses:=cI X.ses k s }
def aK.put (S:aK)(c:Nat)(v:Option Int):aK:={ S with made:=S.made+1,wr:=cI S.wr c (some v),tm:=cI S.tm c (S.snap+(S.made+1)) }
def bd (X:ap)(n:Int):Option Nat:=(List.range 8).find? fun k=>(X.ses k).num==n
def aM (X:ap)(n:Int):Option Nat:=if n<1 then none else bd X n
theorem bu {X:ap}{n:Int}{k:Nat}(h:bd X n=some k):k<8∧(X.ses k).num=n:=by
 unfold bd at h
 have h1:=List.mem_of_find?_eq_some h
 have h2:=List.find?_some h
 exact⟨by simpa using h1,by simpa using h2⟩
theorem kT {X:ap}{n:Int}(h:bd X n=none):∀ k,k<8→(X.ses k).num≠n:=by
 unfold bd at h
 rw[List.find?_eq_none] at h
 intro k hk
 simpa using h k (by simpa using hk)
def a8 (X:ap):(Int×Int)×ap:=match bd X 0 with
 |none=>((0,7),X)
 |some k=>((X.opened+1,0),{ X with opened:=X.opened+1,ses:=cI X.ses k (.new (X.opened+1) X.latest) })
def dO (s:ByteArray):Nat:=((bt s 0 - 97)*10+(bt s 1 - 48)).toNat
def cj (X:ap)(n:Int)(s:ByteArray):Int×ap:=match aM X n with
 |none=>(6,X)
 |some k=>if eU s then (0,X.setSes k ((X.ses k).put (dO s) (some (bt s 2 - 48)))) else (8,X)
def aX (X:ap)(n:Int)(s:ByteArray):Int×ap:=match aM X n with
 |none=>(6,X)
 |some k=>if eE s then (0,X.setSes k ((X.ses k).put (dO s) none)) else (8,X)
def iX (h:List (Int×Option Int))(t:Int):Option Int:=match h.reverse.find? (fun p=>decide (p.1≤t)) with
 |some p=>p.2
 |none=>none
def aN (h:List (Int×Option Int))(t:Int):Int×Option Int:=match h.reverse.find? (fun p=>decide (p.1≤t)) with
 |some p=>p
 |none=>(0,none)
theorem gt (h:List (Int×Option Int))(t:Int):(aN h t).2=iX h t:=by
 unfold aN iX
 cases h.reverse.find? (fun p=>decide (p.1≤t)) <;> rfl
def jk (X:ap)(k c:Nat):Option Int:=match (X.ses k).wr c with
 |some v=>v
 |none=>iX (X.hist c) (X.ses k).snap
def cz (c:Nat)(v:Int):ByteArray:=strOfNums [97+(c:Int) / 10,48+(c:Int) % 10,48+v]
def oP (X:ap)(k:Nat):ByteArray:=ch ((List.range 60).filterMap fun c=>(jk X k c).map (cz c))
def e9 (X:ap)(n:Int):ByteArray×Int:=match aM X n with
 |none=>(ByteArray.empty,6)
 |some k=>(oP X k,0)
def aY (X:ap)(n:Int):Int×ap:=match aM X n with
 |none=>(6,X)
 |some k=>(0,X.setSes k .zero)
def kF (S:aK):Bool:=(List.range 60).any fun c=>(S.wr c).isSome
def aK.ok (S:aK):Prop:=0≤S.made∧decide (0<S.made)=kF S
def clash (X:ap)(S:aK):Bool:=(List.range 60).any fun c=>(S.wr c).isSome&&decide (X.last c>S.snap)
def ap.commit (X:ap)(S:aK):ap:={ X with
 latest:=X.latest+1
 last:=fun c=>if (S.wr c).isSome then X.latest+1 else X.last c
 hist:=fun c=>match S.wr c with|some v=>X.hist c++[(X.latest+1,v)]|none=>X.hist c }
def jD (X:ap)(n:Int):(Int×Int)×ap:=match aM X n with
 |none=>((0,6),X)
 |some k=>if kF (X.ses k) then (if clash X (X.ses k) then ((0,10),X.setSes k .zero) else ((X.latest+1,0),(X.setSes k .zero).commit (X.ses k))) else ((0,0),X.setSes k .zero)
theorem iz {α β:Type}{f:α→β}:∀ {l:List α},(l.map f).Nodup→∀ {a b:α},a∈l→b∈l→f a=f b→a=b
 |[],_,_,_,h,_,_=>by cases h
 |x::l,h,a,b,ha,hb,he=>by
  rw[List.map_cons,List.nodup_cons] at h
  rcases List.mem_cons.mp ha with e1|h1 <;> rcases List.mem_cons.mp hb with e2|h2
  ·rw[e1,e2]
  ·exact absurd (List.mem_map.mpr ⟨b,h2,by rw[←he,e1]⟩) h.1
  ·exact absurd (List.mem_map.mpr ⟨a,h1,by rw[he,e2]⟩) h.1
  ·exact iz h.2 h1 h2 he
theorem eJ:∀ {l m:List Nat} ,l.Nodup→(∀ x∈l,x∈m)→l.length≤m.length
 |[],_,_,_=>Nat.zero_le _
 |a::l,m,hn,hs=>by
  rw[List.nodup_cons] at hn
  have h1:a∈m:=hs a (by simp)
  have h2:=eJ (l:=l) (m:=m.erase a) hn.2 (fun x hx=>by
   have hx2:=hs x (by simp[hx])
   have:x≠a:=fun e=>hn.1 (e▸hx)
   exact (List.mem_erase_of_ne this).mpr hx2)
  rw[List.length_erase_of_mem h1] at h2
  have:0<m.length:=List.length_pos_of_mem h1
  simp only[List.length_cons]
  omega
theorem dK {α β:Type}{f g:α→Option β}:∀ {l:List α},(∀ x∈l,f x=g x)→l.filterMap f=l.filterMap g
 |[],_=>rfl
 |x::l,h=>by
  have h1:=h x (by simp)
  have h2:=dK (l:=l) (fun y hy=>h y (by simp[hy]))
  simp only[List.filterMap_cons,h1,h2]
theorem oz (h:List (Int×Option Int))(p:Int×Option Int)(t:Int):iX (h++[p]) t=if p.1≤t then p.2 else iX h t:=by
 unfold iX
 simp only[List.reverse_append,List.reverse_cons,List.reverse_nil,List.nil_append,List.singleton_append,List.find?_cons]
 by_cases e:p.1≤t
 ·simp[e]
 ·simp[e]
theorem eF (h:List (Int×Option Int))(p:Int×Option Int)(t:Int):aN (h++[p]) t=if p.1≤t then p else aN h t:=by
 unfold aN
 simp only[List.reverse_append,List.reverse_cons,List.reverse_nil,List.nil_append,List.singleton_append,List.find?_cons]
 by_cases e:p.1≤t
 ·simp[e]
 ·simp[e]
structure Fr (S:List Nat)(w w':World):Prop where
 os:w'.os=w.os
 tape:w'.tape=w.tape
 output:w'.output=w.output
 size:w.heap.size≤w'.heap.size
 block:∀ k,k<w.heap.size→k∉S→w'.heap[k]?=w.heap[k]?
theorem Fr.refl (S:List Nat)(w:World):Fr S w w:=⟨rfl,rfl,rfl,Nat.le_refl _,fun _ _ _=>rfl⟩
theorem Fr.trans {S:List Nat}{a b c:World}(h:Fr S a b)(k:Fr S b c):Fr S a c:=
 ⟨k.os.trans h.os,k.tape.trans h.tape,k.output.trans h.output,Nat.le_trans h.size k.size,fun i hi hs=>(k.block i (Nat.lt_of_lt_of_le hi h.size) hs).trans (h.block i hi hs)⟩
theorem Fr.mono {S S':List Nat}{a b:World}(h:Fr S a b)(hs:∀ g,g∈S→g∈S'∨a.heap.size≤g):Fr S' a b:=
 ⟨h.os,h.tape,h.output,h.size,fun k hk hk'=>h.block k hk (fun e=>by rcases hs k e with h|h;exact hk' h;omega)⟩
theorem Fr.grown {w w':World}{row:Option Nat}(h:w.grownBy w' row):Fr row.toList w w':=
 ⟨h.os,h.tape,h.output,h.size,fun k hk hk'=>h.block k hk (fun e=>hk' (by rw[←e];simp))⟩
theorem Fr.drewN {S:List Nat}{w w':World}(h:Fr S w w')(n:Nat):Fr S w (w'.drewN n):=⟨h.os,h.tape,h.output,h.size,h.block⟩
theorem Fr.alloc {S:List Nat}{w w':World}(h:Fr S w w')(o:Obj):Fr S w (w'.alloc o):=
 h.trans ((Fr.grown (World.grownBy_alloc w' o none)).mono (fun g hg=>by cases hg))
theorem Fr.set {S:List Nat}{w w':World}(h:Fr S w w'){a:Addr}(ha:a.block∈S∨w.heap.size≤a.block)(u:Value):Fr S w (w'.setCell a u):=by
 have hb:=Below.setCell (Below.refl 0 w') (p:=a) (Nat.zero_le _) u
 exact⟨hb.os.trans h.os,hb.tape.trans h.tape,hb.output.trans h.output,Nat.le_trans h.size hb.size,fun i hi hr=>by
  rw[Below.heap_setCell w' a u i (by rcases ha with e|e;·intro c;subst c;exact hr e
                                     ·omega)]
  exact h.block i hi hr⟩
theorem Fr.below {S:List Nat}{w w':World}{B:Nat}(h:Fr S w w')(hB:B≤w.heap.size)(hS:∀ g∈S,B≤g):Below B w w':=
 ⟨h.os,h.tape,h.output,h.size,fun k hk=>h.block k (by omega) (fun e=>by have:=hS k e;omega)⟩
abbrev eM:=World→List Nat→Prop
def bV (P:eM):Prop:=∀ {S:List Nat} {w w':World} {f:List Nat},P w f→Fr S w w'→(∀ g∈f,g∉S)→P w' f
def bW (P:eM):Prop:=∀ {w:World} {f:List Nat},P w f→∀ g∈f,g<w.heap.size
def eZ (g:Nat)(cs:Array Value)(t:TypeId):eM:=fun w f=>w.heap[g]?=some (.cells cs t (0,0))∧f=[g]
theorem eZ.framed (g:Nat)(cs:Array Value)(t:TypeId):bV (eZ g cs t):=by
 rintro S w w' f ⟨h,rfl⟩ hf hs
 exact⟨(hf.block g (lt_of_block h) (hs g (by simp))).trans h,rfl⟩
theorem eZ.within (g:Nat)(cs:Array Value)(t:TypeId):bW (eZ g cs t):=by
 rintro w f ⟨h,rfl⟩ k hk
 rw[List.mem_singleton.mp hk];exact lt_of_block h
def bk (e:TypeId)(size:Nat)(v:Value)(n:Nat)(xs:List Value):eM:=fun w f=>w.ownsRow 0 e size v n xs∧f=v.ownBlock.toList
theorem bk.framed (e:TypeId)(size:Nat)(v:Value)(n:Nat)(xs:List Value):bV (bk e size v n xs):=by
 rintro S w w' f ⟨h,rfl⟩ hf hs
 refine⟨?_,rfl⟩
 obtain⟨h1,h2⟩:=h
 refine⟨h1,?_⟩
 rcases h2 with h2|⟨g,cap,cur,rfl,hb,hh,h3⟩
 ·exact .inl h2
 ·exact .inr ⟨g,cap,cur,rfl,hb,(hf.block g (lt_of_block hh) (hs g (by simp[Value.ownBlock]))).trans hh,h3⟩
theorem bk.within (e:TypeId)(size:Nat)(v:Value)(n:Nat)(xs:List Value):bW (bk e size v n xs):=by
 rintro w f ⟨h,rfl⟩ k hk
 have:v.ownBlock=some k:=by
  cases hv:v.ownBlock with
  |none=>rw[hv] at hk;cases hk
  |some g=>rw[hv] at hk;simp at hk;rw[hk]
 exact (h.lt k this).2
theorem bk.nil (e:TypeId)(size:Nat)(w:World):bk e size (.slice none 0 0) 0 [] w []:=⟨World.ownsRow_nil _ _ _ _,rfl⟩
def b6 (P Q:eM):eM:=fun w f=>∃ f1 f2,P w f1∧Q w f2∧f=f1++f2
theorem b6.framed {P Q:eM}(hP:bV P)(hQ:bV Q):bV (b6 P Q):=by
 rintro S w w' f ⟨f1,f2,h1,h2,rfl⟩ hf hs
 exact⟨f1,f2,hP h1 hf (fun g hg=>hs g (by simp[hg])),hQ h2 hf (fun g hg=>hs g (by simp[hg])),rfl⟩
theorem b6.within {P Q:eM}(hP:bW P)(hQ:bW Q):bW (b6 P Q):=by
 rintro w f ⟨f1,f2,h1,h2,rfl⟩ g hg
 rcases List.mem_append.mp hg with hg|hg
 ·exact hP h1 g hg
 ·exact hQ h2 g hg
def aA {α:Type}(P:Value→α→eM):List Value→List α→eM
 |[],[],_,f=>f=[]
 |v::vs,a::zs,w,f=>∃ f1 f2,P v a w f1∧aA P vs zs w f2∧f=f1++f2
 |_,_,_,_=>False
theorem aA.framed {α:Type}{P:Value→α→eM}(hP:∀ v a,bV (P v a)):∀ vs zs,bV (aA P vs zs)
 |[],[]=>fun h _ _=>h
 |v::vs,a::zs=>by
  rintro⟨f1,f2,h1,h2,rfl⟩ hf hs
  exact⟨f1,f2,hP v a h1 hf (fun g hg=>hs g (by simp[hg])),aA.framed hP vs zs h2 hf (fun g hg=>hs g (by simp[hg])),rfl⟩
 |[],_::_=>fun h _ _=>h.elim
 |_::_,[]=>fun h _ _=>h.elim
theorem aA.within {α:Type}{P:Value→α→eM}(hP:∀ v a,bW (P v a)):∀ vs zs,bW (aA P vs zs)
 |[],[]=>fun h g hg=>by rw[show _=[] from h] at hg;cases hg
 |v::vs,a::zs=>by
  rintro⟨f1,f2,h1,h2,rfl⟩ g hg
  rcases List.mem_append.mp hg with hg|hg
  ·exact hP v a h1 g hg
  ·exact aA.within hP vs zs h2 g hg
 |[],_::_=>fun h=>h.elim
 |_::_,[]=>fun h=>h.elim
theorem aA.len {α:Type}{P:Value→α→eM}:∀ {vs:List Value} {zs:List α} {w:World} {f:List Nat},aA P vs zs w f→vs.length=zs.length
 |[],[],_,_,_=>rfl
 |_::_,_::_,_,_,⟨_,_,_,h,_⟩=>by simp[aA.len h]
 |[],_::_,_,_,h=>h.elim
 |_::_,[],_,_,h=>h.elim
theorem aA.snoc {α:Type}{P:Value→α→eM}{v:Value}{a:α}{w:World}{f2:List Nat}(hv:P v a w f2):∀ {vs:List Value} {zs:List α} {f:List Nat},aA P vs zs w f→aA P (vs++[v]) (zs++[a]) w (f++f2)
 |[],[],f,h=>by
  rw[show f=[] from h]
  exact⟨f2,[],hv,rfl,by simp⟩
 |_::_,_::_,_,⟨g1,g2,h1,h2,e⟩=>⟨g1,g2++f2,h1,aA.snoc hv h2,by rw[e,List.append_assoc]⟩
 |[],_::_,_,h=>h.elim
 |_::_,[],_,h=>h.elim
theorem aA.get {α:Type}{P:Value→α→eM}:∀ {vs:List Value} {zs:List α} {w:World} {f:List Nat},aA P vs zs w f→∀ (k:Nat) (h1:k<vs.length) (h2:k<zs.length),∃ g,P vs[k] zs[k] w g∧∀ x∈g,x∈f
 |_::_,_::_,_,_,⟨f1,f2,h1,_,e⟩,0,_,_=>⟨f1,h1,fun x hx=>by rw[e];simp[hx]⟩
 |_::_,_::_,_,_,⟨f1,f2,_,h2,e⟩,k+1,h3,h4=>by
  obtain⟨g,hg,hx⟩:=aA.get h2 k (by simpa using h3) (by simpa using h4)
  exact⟨g,by simpa using hg,fun x h=>by rw[e];simp[hx x h]⟩
theorem aI {w w':World}(h:w.grownBy w' none):Fr [] w w':=Fr.grown h
theorem aA.focus {α:Type}{P:Value→α→eM}(hP:∀ v a,bV (P v a)):∀ {vs:List Value} {zs:List α} {w:World} {f:List Nat},aA P vs zs w f→∀ (k:Nat) (h1:k<vs.length) (h2:k<zs.length),
  ∃ fa g fb,P vs[k] zs[k] w g∧f=fa++(g++fb)∧∀ (v':Value) (a':α) (w':World) (g' S:List Nat),P v' a' w' g'→Fr S w w'→(∀ x∈fa,x∉S)→(∀ x∈fb,x∉S)→aA P (vs.set k v') (zs.set k a') w' (fa++(g'++fb))
 |v::vs,a::zs,w,f,⟨f1,f2,h1,h2,e⟩,0,_,_=>by
  refine⟨[],f1,f2,h1,by simpa using e,?_⟩
  intro v' a' w' g' S hv hf _ hb
  exact⟨g',f2,hv,aA.framed hP _ _ h2 hf hb,rfl⟩
 |v::vs,a::zs,w,f,⟨f1,f2,h1,h2,e⟩,k+1,h3,h4=>by
  obtain⟨fa,g,fb,hg,e2,hput⟩:=aA.focus hP h2 k (by simpa using h3) (by simpa using h4)
  refine⟨f1++fa,g,fb,by simpa using hg,by rw[e,e2];simp,?_⟩
  intro v' a' w' g' S hv hf ha hb
  exact⟨f1,fa++(g'++fb),hP _ _ h1 hf (fun x hx=>ha x (by simp[hx])),hput v' a' w' g' S hv hf (fun x hx=>ha x (by simp[hx])) hb,by simp⟩
theorem dE {fa g g' fb:List Nat}{N:Nat}(h:(fa++(g++fb)).Nodup)(hN:∀ x∈fa++(g++fb),x<N)(hg:g'.Nodup)(hs:∀ x∈g',x∈g∨N≤x):(fa++(g'++fb)).Nodup:=by
 rw[List.nodup_append] at h ⊢
 obtain⟨h1,h2,h3⟩:=h
 rw[List.nodup_append] at h2 ⊢
 obtain⟨h4,h5,h6⟩:=h2
 have hin:∀ x y,x∈g'→y<N→(y∈g→False)→x≠y:=by
  intro x y hx hy hyg e
  subst e
  rcases hs x hx with h|h
  ·exact hyg h
  ·omega
 refine⟨h1,⟨hg,h5,?_⟩,?_⟩
 ·intro a ha b hb
  exact hin a b ha (hN b (by simp[hb])) (fun hbg=>h6 b hbg b hb rfl)
 ·intro a ha b hb
  rcases List.mem_append.mp hb with hb|hb
  ·exact (hin b a hb (hN a (by simp[ha])) (fun hag=>h3 a ha a (by simp[hag]) rfl)).symm
  ·exact h3 a ha b (by simp[hb])
abbrev gw:=List (Int×Option Int)
def jR (h:gw)(t:Int)(p:Int×Option Int):Bool:=decide (t<p.1)||(decide (p.1=(aN h t).1)&&p.2.isSome)
def dx (h:gw)(t:Int):gw:=h.filter (jR h t)
structure wD (h:gw):Prop where
 ord:h.Pairwise (fun p q=>p.1<q.1)
 pos:∀ p∈h,1≤p.1
def wE (h:gw)(t:Int):gw:=h.filter fun p=>decide (p.1≤t)
def Fv (h:gw)(t:Int):gw:=h.filter fun p=>decide (t<p.1)
theorem wD.sub {h g:gw}(hi:wD h)(hs:g.Sublist h):wD g:=⟨hi.ord.sublist hs,fun p hp=>hi.pos p (hs.subset hp)⟩
theorem wD.swept {h:gw}(hi:wD h)(t:Int):wD (dx h t):=hi.sub List.filter_sublist
theorem EV:wD []:=⟨List.Pairwise.nil,fun p hp=>by cases hp⟩
theorem wD.snoc {h:gw}(hi:wD h){p:Int×Option Int}(hp:∀ q∈h,q.1<p.1)(h1:1≤p.1):wD (h++[p]):=by
 refine⟨?_,fun q hq=>?_⟩
 ·rw[List.pairwise_append]
  refine⟨hi.ord,List.pairwise_singleton _ _,fun a ha b hb=>?_⟩
  rw[List.mem_singleton] at hb
  rw[hb]
  exact hp a ha
 ·rcases List.mem_append.mp hq with hq|hq
  ·exact hi.pos q hq
  ·rw[List.mem_singleton] at hq
   rw[hq]
   exact h1
theorem tD:∀ {h:gw} ,h.Pairwise (fun p q=>p.1<q.1)→∀ t,h=wE h t++Fv h t
 |[],_,_=>rfl
 |p::h,hi,t=>by
  rw[List.pairwise_cons] at hi
  have ih:=tD hi.2 t
  unfold wE Fv at*
  by_cases e:p.1≤t
  ·rw[List.filter_cons_of_pos (by simpa using e),List.filter_cons_of_neg (by simp;omega),List.cons_append,←ih]
  ·have h0:h.filter (fun p=>decide (p.1≤t))=[]:=by
    rw[List.filter_eq_nil_iff]
    intro q hq
    have:=hi.1 q hq
    simp
    omega
   rw[List.filter_cons_of_neg (by simpa using e),List.filter_cons_of_pos (by simp;omega),h0,List.nil_append]
   rw[h0,List.nil_append] at ih
   rw[←ih]
theorem mU (h:gw)(t:Int):aN h t=(wE h t).getLast?.getD (0,none):=by
 unfold aN wE
 rw[←List.head?_reverse,←List.filter_reverse,List.head?_filter]
 cases h.reverse.find? (fun p=>decide (p.1≤t)) <;> rfl
def qB (p:Int×Option Int):gw:=if p.2.isSome then [p] else []
theorem D0 {h:gw}(hi:wD h)(t:Int):dx h t=qB (aN h t)++Fv h t:=by
 have hs:=tD hi.ord t
 have h1:(Fv h t).filter (jR h t)=Fv h t:=by
  rw[List.filter_eq_self]
  intro p hp
  have:=(List.mem_filter.mp hp).2
  unfold jR
  simp only[decide_eq_true_eq] at this
  simp[this]
 have h2:(wE h t).filter (jR h t)=qB (aN h t):=by
  have hp:(wE h t).Pairwise (fun p q=>p.1<q.1):=hi.ord.sublist List.filter_sublist
  have hle:∀ p∈wE h t,¬t<p.1:=fun p hp=>by
   have:=(List.mem_filter.mp hp).2
   simp at this
   omega
  have hv:=mU h t
  rcases List.eq_nil_or_concat (wE h t) with e|⟨A,q,e⟩
  ·rw[e] at hv ⊢
   rw[hv]
   rfl
  ·rw[List.concat_eq_append] at e
   rw[e] at hv hp hle ⊢
   have hq:aN h t=q:=by rw[hv];simp
   rw[List.filter_append,hq]
   rw[List.pairwise_append] at hp
   have h0:A.filter (jR h t)=[]:=by
    rw[List.filter_eq_nil_iff]
    intro p hpA
    have a1:=hp.2.2 p hpA q (by simp)
    have a2:=hle p (by simp[hpA])
    unfold jR
    rw[hq]
    simp[a2]
    omega
   rw[h0,List.nil_append]
   have a3:=hle q (by simp)
   unfold qB
   simp only[List.filter_cons,List.filter_nil,jR,hq]
   simp[a3]
 conv=>lhs;unfold dx
 conv=>lhs;arg 2;rw[hs]
 rw[List.filter_append,h1,h2]
def e8 (p q:Int×Option Int):Prop:=p.2=q.2∧(p.2.isSome=true→p=q)
theorem e8.refl (p:Int×Option Int):e8 p p:=⟨rfl,fun _=>rfl⟩
theorem e8.trans {p q r:Int×Option Int}(h:e8 p q)(k:e8 q r):e8 p r:=⟨h.1.trans k.1,fun e=>(h.2 e).trans (k.2 (by rw[←h.1];exact e))⟩
theorem F8 {h:gw}{t u:Int}(htu:t≤u)(hi:h.Pairwise (fun p q=>p.1<q.1)):wE h u=wE h t++wE (Fv h t) u:=by
 conv=>lhs;rw[tD hi t]
 unfold wE
 rw[List.filter_append]
 congr 1
 rw[List.filter_filter]
 apply List.filter_congr
 intro p _
 by_cases e:p.1≤t
 ·have:p.1≤u:=by omega
  simp[e,this]
 ·simp[e]
theorem AV {p:Int×Option Int}(q:Int×Option Int)(hq:q.2=none):e8 ((qB p).getLast?.getD q) p:=by
 unfold qB
 cases hp:p.2 with
 |none=>
  simp only[Option.isSome_none,Bool.false_eq_true,if_false,List.getLast?_nil,Option.getD_none]
  exact⟨by rw[hq,hp],fun e=>by rw[hq] at e;cases e⟩
 |some v=>
  simp only[Option.isSome_some,if_true,List.getLast?_singleton,Option.getD_some]
  exact .refl _
theorem xy {h:gw}(hi:wD h){t u:Int}(htu:t≤u):e8 (aN (dx h t) u) (aN h u):=by
 have e1:wE (dx h t) u=qB (aN h t)++wE (Fv h t) u:=by
  rw[D0 hi t]
  unfold wE
  rw[List.filter_append]
  congr 1
  rw[List.filter_eq_self]
  intro p hp
  unfold qB at hp
  split at hp
  ·rename_i hs
   rw[List.mem_singleton] at hp
   subst hp
   have:(aN h t).1≤t:=by
    unfold aN at hs ⊢
    cases hf:h.reverse.find? (fun p=>decide (p.1≤t)) with
    |none=>rw[hf] at hs;cases hs
    |some q=>
     have:=List.find?_some hf
     simpa using this
   simp
   omega
  ·cases hp
 have e2:=F8 htu hi.ord
 rw[mU (dx h t) u,mU h u,e1,e2]
 rcases List.eq_nil_or_concat (wE (Fv h t) u) with e|⟨A,q,e⟩
 ·rw[e,List.append_nil,List.append_nil,←mU h t]
  exact AV _ rfl
 ·rw[List.concat_eq_append] at e
  rw[e,←List.append_assoc,←List.append_assoc]
  simp only[List.getLast?_append,List.getLast?_singleton,Option.some_or,Option.getD_some]
  exact .refl _
theorem uS (h:gw)(t:Int):(dx h t).length≤h.length:=List.length_filter_le _ _
def ap.swept (X:ap)(t:Int):ap:={ X with hist:=fun c=>dx (X.hist c) t }
def cO (X:ap):Nat→Int
 |0=>X.latest
 |k+1=>if 0<(X.ses k).num∧(X.ses k).snap<cO X k then (X.ses k).snap else cO X k
def cq (X:ap):Int×ap:=((keptN X 60:Int) - (keptN (X.swept (cO X 8)) 60:Int),X.swept (cO X 8))
theorem gY (X:ap)(t:Int):∀ n,keptN (X.swept t) n≤keptN X n
 |0=>Nat.le_refl 0
 |n+1=>by
  have:=gY X t n
  have h2:=uS (X.hist n) t
  unfold keptN
  show keptN (X.swept t) n+(dx (X.hist n) t).length≤_
  omega
def cL (X:ap)(m:Nat):Bool×ap:=if ((keptN X 60+m:Nat):Int)≤X.room then (true,X) else (decide (((keptN (X.swept (cO X 8)) 60+m:Nat):Int)≤X.room),X.swept (cO X 8))
def bI (X:ap)(n:Int):(Int×Int)×ap:=match aM X n with
 |none=>((0,6),X)
 |some k=>if kF (X.ses k) then (if clash X (X.ses k) then ((0,10),X.setSes k .zero) else (if (cL X (cA (X.ses k) 60)).1 then ((X.latest+1,0),((cL X (cA (X.ses k) 60)).2.setSes k .zero).commit (X.ses k)) else ((0,11),(cL X (cA (X.ses k) 60)).2))) else ((0,0),X.setSes k .zero)
def iU (p:PW):Bool:=p.isSome
def gW (p:PW):Bool:=match p with|some (some _)=>true|_=>false
def re (p:PW):Int:=match p with|some (some v)=>v|_=>0
def Fz:Option Nat→Value
 |none=>.slice none 0 0
 |some g=>.slice (some ⟨g,0,none⟩) 9000 9000
structure cJ (w:World)(b o:Nat)(S:aK):Prop where
 num:w.cell? ⟨b,o,none⟩=some (.int .i64 S.num)
 snap:w.cell? ⟨b,o+1,none⟩=some (.int .i64 S.snap)
 cnt:w.cell? ⟨b,o+2,none⟩=some (.int .i64 S.made)
 made:∀ c,c<60→w.cell? ⟨b,o+3+c*4,none⟩=some (.bool (iU (S.wr c)))
 filled:∀ c,c<60→w.cell? ⟨b,o+3+c*4+1,none⟩=some (.bool (gW (S.wr c)))
 val:∀ c,c<60→w.cell? ⟨b,o+3+c*4+2,none⟩=some (.int .i64 (re (S.wr c)))
 tm:∀ c,c<60→w.cell? ⟨b,o+3+c*4+3,none⟩=some (.int .i64 (S.tm c))
 mks:w.cell? ⟨b,o+243,none⟩=some (Fz S.mks)
 ok:S.ok
theorem CM (b o:Nat)(S:aK)(w:World)(h:cJ w b o S):
  Calls Tryz.prog 48 #[.pointer (some ⟨b,o,none⟩)] w fun e w'=>e=.returned (.bool (kF S))∧w'=w:=by
 have hc:=h.cnt
 have hk:=h.ok.2
 clear h
 obtain⟨r,hr⟩:∃ r,r=kF S:=⟨_,rfl⟩
 obtain⟨m,hm⟩:∃ m,m=S.made:=⟨_,rfl⟩
 rw[←hr,←hm] at hk
 rw[←hm] at hc
 rw[←hr]
 have HK:=af hk
 clear hr hm hk
 go_enter Tryz.func48,Tryz.ntmps48
 go_wp2
 go_ret
 exact⟨by rw[←HK.out];rfl,rfl⟩
def ye (w:World)(x:Nat)(X:ap):Prop:=∀ k,k<8→cJ w x (3+k*244) (X.ses k)
def dn (x:Nat):Option Nat→Value
 |some k=>.pointer (some ⟨x,3+k*244,none⟩)
 |none=>.pointer none
theorem oZ {X:ap}{n:Int}{k:Nat}(hk:k<8)(h:(X.ses k).num=n)(hno:∀ j,j<k→(X.ses j).num≠n):bd X n=some k:=by
 unfold bd
 rw[List.find?_eq_some_iff_getElem]
 refine⟨by simpa using h,k,by simpa using hk,by simp,?_⟩
 intro j hj
 simpa using hno j hj
theorem sV {X:ap}{n:Int}(hno:∀ j,j<8→(X.ses j).num≠n):bd X n=none:=by
 unfold bd
 rw[List.find?_eq_none]
 intro j hj
 simpa using hno j (by simpa using hj)
theorem nk (x:Nat)(X:ap)(n:Int)(w:World)(h:ye w x X):
  Calls Tryz.prog 35 #[.pointer (some ⟨x,0,none⟩),.int .i64 n] w fun e w'=>e=.returned (dn x (bd X n))∧w'=w:=by
 have HM:Hid (∀ k,k<8→w.cell? ⟨x,3+k*244,none⟩=some (.int .i64 (X.ses k).num)):=af (fun k hk=>(h k hk).num)
 clear h
 obtain⟨r,hr⟩:∃ r,r=dn x (bd X n):=⟨_,rfl⟩
 rw[←hr]
 have HR:=af hr
 clear hr
 go_enter Tryz.func35,Tryz.ntmps35
 go_wp2_with fail
 go_loop [5] (fun t=>∃ k:Nat,k≤8∧t=.int .i64 k∧∀ j,j<k→(X.ses j).num≠n) (fun t=>8 - (intOf t).toNat)
 case atStart=>exact⟨0,by omega,rfl,fun j h=>by omega⟩
 case round=>
  obtain⟨k,hk,rfl,hno⟩:=hrel
  have HN:=af hno
  clear hno
  by_cases hlt:k<8
  ·have d0:=HM.out k hlt
   obtain⟨nn,hnn⟩:∃ nn,nn=(X.ses k).num:=⟨_,rfl⟩
   rw[←hnn] at d0
   have HNN:=af hnn
   clear hnn
   by_cases he:nn=n
   ·have q:(nn==n)=true:=by simpa using he
    have HU:Hid (r=.pointer (some ⟨x,3+k*244,none⟩)):=af (by rw[HR.out,oZ hlt (by rw[←HNN.out];exact he) HN.out];rfl)
    clear he
    go_wp2
    go_ret
    exact⟨by rw[HU.out];rfl,rfl⟩
   ·have q:(nn==n)=false:=by simpa using he
    have HN':Hid (∀ j,j<k+1→(X.ses j).num≠n):=af (by
     intro j hj
     by_cases e:j=k
     ·subst e;rw[←HNN.out];exact he
     ·exact HN.out j (by omega))
    clear he
    go_wp2
    go_round
    case rel=>exact⟨k+1,by omega,by go_num,HN'.out⟩
    case measure=>simp[intOf];omega
  ·have HU:Hid (r=.pointer none):=af (by rw[HR.out,sV (fun j hj=>HN.out j (by omega))];rfl)
   go_wp2
   go_ret
   exact⟨by rw[HU.out];rfl,rfl⟩
theorem eX (x:Nat)(X:ap)(n:Int)(w:World)(h:ye w x X):
  Calls Tryz.prog 36 #[.pointer (some ⟨x,0,none⟩),.int .i64 n] w fun e w'=>e=.returned (dn x (aM X n))∧w'=w:=by
 have HN:=af (nk x X n w h)
 clear h
 obtain⟨r,hr⟩:∃ r,r=dn x (aM X n):=⟨_,rfl⟩
 rw[←hr]
 by_cases hn:n<1
 ·have HU:Hid (r=.pointer none):=af (by rw[hr];unfold aM;rw[if_pos hn];rfl)
  clear hr HN
  go_enter Tryz.func36,Tryz.ntmps36
  go_wp2
  go_ret
  exact⟨by rw[HU.out];rfl,rfl⟩
 ·have hr2:dn x (bd X n)=r:=by rw[hr];unfold aM;rw[if_neg hn]
  rw[hr2] at HN
  clear hr hr2
  go_enter Tryz.func36,Tryz.ntmps36
  go_wp2_with fail
  go_at_call 35
  refine HN.out.mono ?_
  rintro e w' ⟨rfl,rfl⟩
  go_wp2
  go_ret
  exact⟨rfl,rfl⟩
def gB (s:ByteArray):Value:=if eE s then .tuple #[.int .i64 (dO s),.bool true] else .tuple #[.int .i64 0,.bool false]
def js (s:ByteArray):Value:=if eU s then .tuple #[.int .i64 (dO s),.int .i64 (bt s 2 - 48),.bool true] else .tuple #[.int .i64 0,.int .i64 0,.bool false]
theorem qF (s:ByteArray)(w:World)(_hs63:s.size<9223372036854775808):
  Calls Tryz.prog 42 #[.string s] w fun e w'=>e=.returned (gB s)∧w'=w:=by
 obtain⟨r,hr⟩:∃ r,r=gB s:=⟨_,rfl⟩
 rw[←hr]
 by_cases hs2:s.size=2
 ·have s0:0<s.size:=by omega
  have s1:1<s.size:=by omega
  have bb0:=bY s 0
  have bb1:=bY s 1
  have hb:eE s=(aU (bt s 0)&&bM (bt s 1)):=by simp[eE,hs2]
  cases h0:aU (bt s 0) with
  |false=>
   have HC0:=af (fun W=>nW (bt s 0) W bb0.1 bb0.2 h0)
   have HU:Hid (r=.tuple #[.int .i64 0,.bool false]):=af (by rw[hr];unfold gB;rw[hb,h0];rfl)
   rw[bh s0] at HC0
   cases h1:bM (bt s 1) with
   |false=>
    have HC1:=af (fun W=>jK (bt s 1) W bb1.1 bb1.2 h1)
    rw[bh s1] at HC1
    clear hb h0 h1 bb0 bb1 hr
    go_enter Tryz.func42,Tryz.ntmps42
    go_wp2_with fail
    go_at_call 76
    refine (HC0.out _).mono ?_
    rintro e w' ⟨rfl,rfl⟩
    go_wp2_with fail
    go_at_call 74
    refine (HC1.out _).mono ?_
    rintro e w' ⟨rfl,rfl⟩
    go_wp2
    go_ret2
    exact⟨by rw[HU.out];rfl,rfl⟩
   |true=>
    have HC1:=af (fun W=>iQ (bt s 1) W bb1.1 bb1.2 h1)
    rw[bh s1] at HC1
    clear hb h0 h1 bb0 bb1 hr
    go_enter Tryz.func42,Tryz.ntmps42
    go_wp2_with fail
    go_at_call 76
    refine (HC0.out _).mono ?_
    rintro e w' ⟨rfl,rfl⟩
    go_wp2_with fail
    go_at_call 74
    refine (HC1.out _).mono ?_
    rintro e w' ⟨rfl,rfl⟩
    go_wp2
    go_ret2
    exact⟨by rw[HU.out];rfl,rfl⟩
  |true=>
   have HC0:=af (fun W=>mw (bt s 0) W bb0.1 bb0.2 h0)
   cases h1:bM (bt s 1) with
   |false=>
    have HU:Hid (r=.tuple #[.int .i64 0,.bool false]):=af (by rw[hr];unfold gB;rw[hb,h0,h1];rfl)
    have HC1:=af (fun W=>jK (bt s 1) W bb1.1 bb1.2 h1)
    rw[bh s0] at HC0
    rw[bh s1] at HC1
    clear hb h0 h1 bb0 bb1 hr
    go_enter Tryz.func42,Tryz.ntmps42
    go_wp2_with fail
    go_at_call 76
    refine (HC0.out _).mono ?_
    rintro e w' ⟨rfl,rfl⟩
    go_wp2_with fail
    go_at_call 74
    refine (HC1.out _).mono ?_
    rintro e w' ⟨rfl,rfl⟩
    go_wp2
    go_ret2
    exact⟨by rw[HU.out];rfl,rfl⟩
   |true=>
    have HC1:=af (fun W=>iQ (bt s 1) W bb1.1 bb1.2 h1)
    have hcb:97≤bt s 0∧bt s 0≤102:=by simpa [aU] using h0
    have hdb:48≤bt s 1∧bt s 1≤57:=by simpa [bM] using h1
    have HU:Hid (r=.tuple #[.int .i64 ((bt s 0 - 97)*10+(bt s 1 - 48)),.bool true]):=af (by
     rw[hr];unfold gB;rw[hb,h0,h1]
     have:((dO s:Nat):Int)=(bt s 0 - 97)*10+(bt s 1 - 48):=by unfold dO;omega
     rw[←this];rfl)
    obtain⟨c0,hc0⟩:∃ c0,c0=bt s 0:=⟨_,rfl⟩
    obtain⟨c1,hc1⟩:∃ c1,c1=bt s 1:=⟨_,rfl⟩
    have e0:((s[0]'s0).toNat:Int)=c0:=by rw[hc0,bh s0]
    have e1:((s[1]'s1).toNat:Int)=c1:=by rw[hc1,bh s1]
    rw[←hc0,←hc1] at HU
    rw[←hc0] at HC0 hcb
    rw[←hc1] at HC1 hdb
    clear hb h0 h1 bb0 bb1 hr hc0 hc1
    go_enter Tryz.func42,Tryz.ntmps42
    go_wp2_with fail
    go_at_call 76
    refine (HC0.out _).mono ?_
    rintro e w' ⟨rfl,rfl⟩
    go_wp2_with fail
    go_at_call 74
    refine (HC1.out _).mono ?_
    rintro e w' ⟨rfl,rfl⟩
    go_wp2
    go_ret2
    exact⟨by rw[HU.out];rfl,rfl⟩
 ·have HU:Hid (r=.tuple #[.int .i64 0,.bool false]):=af (by rw[hr];simp[gB,eE,hs2])
  clear hr
  go_enter Tryz.func42,Tryz.ntmps42
  go_wp2
  go_ret2
  exact⟨by rw[HU.out];rfl,rfl⟩
end Go.Proofs.YthlhbjnkohinmabGreat
