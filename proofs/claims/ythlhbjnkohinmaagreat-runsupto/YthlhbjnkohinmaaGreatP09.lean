import Derived.Test.YthlhbjnkohinmaaGreatP00
import Derived.OwnWalk
import Derived.OneCell
import Derived.Test.YthlhbjnkohinmaaGreatP08
import Derived.Deep.RegionLaw
import Derived.Deep.MidRow
import Derived.Handy
import Derived.Test.YthlhbjnkohinmaaGreatP04
namespace Go.Proofs.YthlhbjnkohinmaaGreat
set_option maxRecDepth 100000
set_option maxHeartbeats 8000000
open Go.RowKit
structure Fr (S:List Nat) (w w':World):Prop where
 os:w'.os=w.os
 tape:w'.tape=w.tape
 output:w'.output=w.output
 size:w.heap.size≤w'.heap.size
 block:∀ k,k<w.heap.size→k∉S→w'.heap[k]?=w.heap[k]?
theorem Fr.refl (S:List Nat) (w:World):Fr S w w:=⟨rfl,rfl,rfl,Nat.le_refl _,fun _ _ _=>rfl⟩
theorem Fr.trans {S:List Nat} {a b c:World} (h:Fr S a b) (k:Fr S b c):Fr S a c:=
 ⟨k.os.trans h.os,k.tape.trans h.tape,k.output.trans h.output,Nat.le_trans h.size k.size,fun i hi hs=>(k.block i (Nat.lt_of_lt_of_le hi h.size) hs).trans (h.block i hi hs)⟩
theorem Fr.mono {S S':List Nat} {a b:World} (h:Fr S a b) (hs:∀ g,g∈S→g∈S'∨a.heap.size≤g):Fr S' a b:=
 ⟨h.os,h.tape,h.output,h.size,fun k hk hk'=>h.block k hk (fun e=>by rcases hs k e with h|h;exact hk' h;omega)⟩
theorem Fr.grown {w w':World} {row:Option Nat} (h:w.grownBy w' row):Fr row.toList w w':=
 ⟨h.os,h.tape,h.output,h.size,fun k hk hk'=>h.block k hk (fun e=>hk' (by rw[←e];simp))⟩
theorem Fr.drewN {S:List Nat} {w w':World} (h:Fr S w w') (n:Nat):Fr S w (w'.drewN n):=⟨h.os,h.tape,h.output,h.size,h.block⟩
theorem Fr.alloc {S:List Nat} {w w':World} (h:Fr S w w') (o:Obj):Fr S w (w'.alloc o):=
 h.trans ((Fr.grown (World.grownBy_alloc w' o none)).mono (fun g hg=>by cases hg))
theorem Fr.set {S:List Nat} {w w':World} (h:Fr S w w') {a:Addr} (ha:a.block∈S∨w.heap.size≤a.block) (u:Value):Fr S w (w'.setCell a u):=by
 have hb:=Below.setCell (Below.refl 0 w') (p:=a) (Nat.zero_le _) u
 exact⟨hb.os.trans h.os,hb.tape.trans h.tape,hb.output.trans h.output,Nat.le_trans h.size hb.size,fun i hi hr=>by
  rw[Below.heap_setCell w' a u i (by rcases ha with e|e;·intro c;subst c;exact hr e
                                     ·omega)]
  exact h.block i hi hr⟩
theorem Fr.below {S:List Nat} {w w':World} {B:Nat} (h:Fr S w w') (hB:B≤w.heap.size) (hS:∀ g∈S,B≤g):Below B w w':=
 ⟨h.os,h.tape,h.output,h.size,fun k hk=>h.block k (by omega) (fun e=>by have:=hS k e;omega)⟩
abbrev eV:=World→List Nat→Prop
def bS (P:eV):Prop:=∀ {S:List Nat} {w w':World} {f:List Nat},P w f→Fr S w w'→(∀ g∈f,g∉S)→P w' f
def bX (P:eV):Prop:=∀ {w:World} {f:List Nat},P w f→∀ g∈f,g<w.heap.size
def e7 (g:Nat) (cs:Array Value) (t:TypeId):eV:=fun w f=>w.heap[g]?=some (.cells cs t (0,0))∧f=[g]
theorem e7.framed (g:Nat) (cs:Array Value) (t:TypeId):bS (e7 g cs t):=by
 rintro S w w' f ⟨h,rfl⟩ hf hs
 exact⟨(hf.block g (lt_of_block h) (hs g (by simp))).trans h,rfl⟩
theorem e7.within (g:Nat) (cs:Array Value) (t:TypeId):bX (e7 g cs t):=by
 rintro w f ⟨h,rfl⟩ k hk
 rw[List.mem_singleton.mp hk];exact lt_of_block h
def bn (e:TypeId) (size:Nat) (v:Value) (n:Nat) (xs:List Value):eV:=fun w f=>w.ownsRow 0 e size v n xs∧f=v.ownBlock.toList
theorem bn.framed (e:TypeId) (size:Nat) (v:Value) (n:Nat) (xs:List Value):bS (bn e size v n xs):=by
 rintro S w w' f ⟨h,rfl⟩ hf hs
 refine⟨?_,rfl⟩
 obtain⟨h1,h2⟩:=h
 refine⟨h1,?_⟩
 rcases h2 with h2|⟨g,cap,cur,rfl,hb,hh,h3⟩
 ·exact .inl h2
 ·exact .inr ⟨g,cap,cur,rfl,hb,(hf.block g (lt_of_block hh) (hs g (by simp[Value.ownBlock]))).trans hh,h3⟩
theorem bn.within (e:TypeId) (size:Nat) (v:Value) (n:Nat) (xs:List Value):bX (bn e size v n xs):=by
 rintro w f ⟨h,rfl⟩ k hk
 have:v.ownBlock=some k:=by
  cases hv:v.ownBlock with
  |none=>rw[hv] at hk;cases hk
  |some g=>rw[hv] at hk;simp at hk;rw[hk]
 exact (h.lt k this).2
theorem bn.nil (e:TypeId) (size:Nat) (w:World):bn e size (.slice none 0 0) 0 [] w []:=⟨World.ownsRow_nil _ _ _ _,rfl⟩
def bY (P Q:eV):eV:=fun w f=>∃ f1 f2,P w f1∧Q w f2∧f=f1++f2
theorem bY.framed {P Q:eV} (hP:bS P) (hQ:bS Q):bS (bY P Q):=by
 rintro S w w' f ⟨f1,f2,h1,h2,rfl⟩ hf hs
 exact⟨f1,f2,hP h1 hf (fun g hg=>hs g (by simp[hg])),hQ h2 hf (fun g hg=>hs g (by simp[hg])),rfl⟩
theorem bY.within {P Q:eV} (hP:bX P) (hQ:bX Q):bX (bY P Q):=by
 rintro w f ⟨f1,f2,h1,h2,rfl⟩ g hg
 rcases List.mem_append.mp hg with hg|hg
 ·exact hP h1 g hg
 ·exact hQ h2 g hg
def aA {α:Type} (P:Value→α→eV):List Value→List α→eV
 |[],[],_,f=>f=[]
 |v::vs,a::zs,w,f=>∃ f1 f2,P v a w f1∧aA P vs zs w f2∧f=f1++f2
 |_,_,_,_=>False
theorem aA.framed {α:Type} {P:Value→α→eV} (hP:∀ v a,bS (P v a)):∀ vs zs,bS (aA P vs zs)
 |[],[]=>fun h _ _=>h
 |v::vs,a::zs=>by
  rintro⟨f1,f2,h1,h2,rfl⟩ hf hs
  exact⟨f1,f2,hP v a h1 hf (fun g hg=>hs g (by simp[hg])),aA.framed hP vs zs h2 hf (fun g hg=>hs g (by simp[hg])),rfl⟩
 |[],_::_=>fun h _ _=>h.elim
 |_::_,[]=>fun h _ _=>h.elim
theorem aA.within {α:Type} {P:Value→α→eV} (hP:∀ v a,bX (P v a)):∀ vs zs,bX (aA P vs zs)
 |[],[]=>fun h g hg=>by rw[show _=[] from h] at hg;cases hg
 |v::vs,a::zs=>by
  rintro⟨f1,f2,h1,h2,rfl⟩ g hg
  rcases List.mem_append.mp hg with hg|hg
  ·exact hP v a h1 g hg
  ·exact aA.within hP vs zs h2 g hg
 |[],_::_=>fun h=>h.elim
 |_::_,[]=>fun h=>h.elim
theorem aA.len {α:Type} {P:Value→α→eV}:∀ {vs:List Value} {zs:List α} {w:World} {f:List Nat},aA P vs zs w f→vs.length=zs.length
 |[],[],_,_,_=>rfl
 |_::_,_::_,_,_,⟨_,_,_,h,_⟩=>by simp[aA.len h]
 |[],_::_,_,_,h=>h.elim
 |_::_,[],_,_,h=>h.elim
theorem aA.snoc {α:Type} {P:Value→α→eV} {v:Value} {a:α} {w:World} {f2:List Nat} (hv:P v a w f2):∀ {vs:List Value} {zs:List α} {f:List Nat},aA P vs zs w f→aA P (vs++[v]) (zs++[a]) w (f++f2)
 |[],[],f,h=>by
  rw[show f=[] from h]
  exact⟨f2,[],hv,rfl,by simp⟩
 |_::_,_::_,_,⟨g1,g2,h1,h2,e⟩=>⟨g1,g2++f2,h1,aA.snoc hv h2,by rw[e,List.append_assoc]⟩
 |[],_::_,_,h=>h.elim
 |_::_,[],_,h=>h.elim
theorem aA.get {α:Type} {P:Value→α→eV}:∀ {vs:List Value} {zs:List α} {w:World} {f:List Nat},aA P vs zs w f→∀ (k:Nat) (h1:k<vs.length) (h2:k<zs.length),∃ g,P vs[k] zs[k] w g∧∀ x∈g,x∈f
 |_::_,_::_,_,_,⟨f1,f2,h1,_,e⟩,0,_,_=>⟨f1,h1,fun x hx=>by rw[e];simp[hx]⟩
 |_::_,_::_,_,_,⟨f1,f2,_,h2,e⟩,k+1,h3,h4=>by
  obtain⟨g,hg,hx⟩:=aA.get h2 k (by simpa using h3) (by simpa using h4)
  exact⟨g,by simpa using hg,fun x h=>by rw[e];simp[hx x h]⟩
theorem aJ {w w':World} (h:w.grownBy w' none):Fr [] w w':=Fr.grown h
theorem aA.focus {α:Type} {P:Value→α→eV} (hP:∀ v a,bS (P v a)):∀ {vs:List Value} {zs:List α} {w:World} {f:List Nat},aA P vs zs w f→∀ (k:Nat) (h1:k<vs.length) (h2:k<zs.length),
  ∃ fa g fb,P vs[k] zs[k] w g∧f=fa++(g++fb)∧∀ (v':Value) (a':α) (w':World) (g' S:List Nat),P v' a' w' g'→Fr S w w'→(∀ x∈fa,x∉S)→(∀ x∈fb,x∉S)→aA P (vs.set k v') (zs.set k a') w' (fa++(g'++fb))
 |v::vs,a::zs,w,f,⟨f1,f2,h1,h2,e⟩,0,_,_=>by
  refine⟨[],f1,f2,h1,by simpa using e,?_⟩
  intro v' a' w' g' S hv hf _ hb
  exact⟨g',f2,hv,aA.framed hP _ _ h2 hf hb,rfl⟩
 |v::vs,a::zs,w,f,⟨f1,f2,h1,h2,e⟩,k+1,h3,h4=>by
  obtain⟨fa,g,fb,hg,e2,hput⟩:=aA.focus hP h2 k (by simpa using h3) (by simpa using h4)
  refine⟨f1++fa,g,fb,by simpa using hg,by rw[e,e2];simp,?_⟩
  intro v' a' w' g' S hv hf ha hb
  exact⟨f1,fa++(g'++fb),hP _ _ h1 hf (fun x hx=>ha x (by simp[hx])),hput v' a' w' g' S hv hf (fun x hx=>ha x (by simp[hx])) hb,by simp⟩
theorem eb {fa g g' fb:List Nat} {N:Nat} (h:(fa++(g++fb)).Nodup) (hN:∀ x∈fa++(g++fb),x<N) (hg:g'.Nodup) (hs:∀ x∈g',x∈g∨N≤x):(fa++(g'++fb)).Nodup:=by
 rw[List.nodup_append] at h ⊢
 obtain⟨h1,h2,h3⟩:=h
 rw[List.nodup_append] at h2 ⊢
 obtain⟨h4,h5,h6⟩:=h2
 have hin:∀ x y,x∈g'→y<N→(y∈g→False)→x≠y:=by
  intro x y hx hy hyg e
  subst e
  rcases hs x hx with h|h
  ·exact hyg h
  ·omega
 refine⟨h1,⟨hg,h5,?_⟩,?_⟩
 ·intro a ha b hb
  exact hin a b ha (hN b (by simp[hb])) (fun hbg=>h6 b hbg b hb rfl)
 ·intro a ha b hb
  rcases List.mem_append.mp hb with hb|hb
  ·exact (hin b a hb (hN a (by simp[ha])) (fun hag=>h3 a ha a (by simp[hag]) rfl)).symm
  ·exact h3 a ha b (by simp[hb])
def mT (w:World) (b o c:Nat) (f:Bool) (v n t:Int):World:=((((w.setCell ⟨b,o+2,none⟩ (.int .i64 n)).setCell ⟨b,o+3+c*4,none⟩ (.bool true)).setCell ⟨b,o+3+c*4+1,none⟩ (.bool f)).setCell ⟨b,o+3+c*4+2,none⟩ (.int .i64 v)).setCell ⟨b,o+3+c*4+3,none⟩ (.int .i64 t)
theorem yc (b o c:Nat) (f:Bool) (v n t:Int) (w:World) (hc:c<60) (u0 u1 u2 u3:Value)
  (m0:w.cell? ⟨b,o+1,none⟩=some (.int .i64 t)) (m1:w.cell? ⟨b,o+2,none⟩=some (.int .i64 n)) (hn:0≤n) (ht:0≤t) (hnt:t+(n+1)≤9223372036854775807)
  (c0:w.cell? ⟨b,o+3+c*4,none⟩=some u0) (c1:w.cell? ⟨b,o+3+c*4+1,none⟩=some u1) (c2:w.cell? ⟨b,o+3+c*4+2,none⟩=some u2) (c3:w.cell? ⟨b,o+3+c*4+3,none⟩=some u3)
  (zz:∀ i,w.frozen? ⟨b,i,none⟩=false) (hb:b<w.heap.size) :
  Calls Tryz.prog 81 #[.pointer (some ⟨b,o,none⟩),.int .i64 c,.agg #[.bool f,.int .i64 v]] w fun e w'=>e=.returned (.tuple #[])∧
   ∃ m,w'=((mT w b o c f v (n+1) (t+(n+1))).alloc (.cells #[.bool f,.int .i64 v] 74)).drewN m:=by
 have hbz:b≠w.heap.size:=by omega
 have hi0:(0:Int)≤(c:Int):=by omega
 have hi1:(c:Int)<60:=by omega
 have z0:=zz (o+2)
 have z1:=zz (o+3+c*4)
 have z2:=zz (o+3+c*4+1)
 have z3:=zz (o+3+c*4+2)
 have z4:=zz (o+3+c*4+3)
 unfold mT
 go_enter Tryz.func81,Tryz.ntmps81
 go_wp2_with fail
 go_region
 all_goals go_wp2_with fail
 all_goals go_returns
 all_goals exact⟨rfl,1,rfl⟩
structure kz (w w':World) (b o n:Nat):Prop where
 fr:Fr [b] w w'
 cell:∀ i,(i<o∨o+n≤i)→w'.cell? ⟨b,i,none⟩=w.cell? ⟨b,i,none⟩
 blk:∀ {cs:Array Value} {t:TypeId},w.heap[b]?=some (.cells cs t (0,0))→∃ cs',w'.heap[b]?=some (.cells cs' t (0,0))
theorem kz.refl (w:World) (b o n:Nat):kz w w b o n:=⟨Fr.refl _ _,fun _ _=>rfl,fun h=>⟨_,h⟩⟩
theorem kz.trans {w w1 w2:World} {b o n:Nat} (h:kz w w1 b o n) (k:kz w1 w2 b o n):kz w w2 b o n:=
 ⟨h.fr.trans k.fr,fun i hi=>(k.cell i hi).trans (h.cell i hi),fun hb=>by obtain⟨_,h1⟩:=h.blk hb;exact k.blk h1⟩
theorem kz.drewN {w w':World} {b o n:Nat} (h:kz w w' b o n) (m:Nat):kz w (w'.drewN m) b o n:=⟨h.fr.drewN m,h.cell,h.blk⟩
theorem ah {w:World} {b:Nat} {cs:Array Value} {t:TypeId} (h:w.heap[b]?=some (.cells cs t (0,0))) (i:Nat) (u:Value):(w.setCell ⟨b,i,none⟩ u).heap[b]?=some (.cells (cs.setIfInBounds i u) t (0,0)):=Go.heap_setCell_same w b i _ _ _ h
theorem kz.set {w w':World} {b o n:Nat} (h:kz w w' b o n) {i:Nat} (h1:o≤i) (h2:i<o+n) (u:Value):kz w (w'.setCell ⟨b,i,none⟩ u) b o n:=
 ⟨h.fr.set (.inl (by simp)) u,fun j hj=>by
  rw[World.cell?_setCell_other _ _ _ _ (by intro e;injection e with e1 e2;omega)]
  exact h.cell j hj,fun hb=>by
  obtain⟨cs',h3⟩:=h.blk hb
  exact⟨_,ah h3 i u⟩⟩
theorem kz.alloc {w w':World} {b o n:Nat} (h:kz w w' b o n) (hb:b<w.heap.size) (ob:Obj):kz w (w'.alloc ob) b o n:=by
 have hb':b<w'.heap.size:=Nat.lt_of_lt_of_le hb h.fr.size
 refine⟨h.fr.alloc ob,fun j hj=>?_,fun hk=>?_⟩
 ·rw[World.cell?_alloc_lt _ _ _ (by simpa using hb')]
  exact h.cell j hj
 ·obtain⟨cs',h3⟩:=h.blk hk
  exact⟨cs',(Below.heap_alloc w' ob b hb').trans h3⟩
theorem cI.other {w w':World} {b o a n:Nat} {S:aI} (h:cI w b o S) (hc:kz w w' b a n) (hd:o+244≤a∨a+n≤o):cI w' b o S:=
 ⟨(hc.cell _ (by omega)).trans h.num,(hc.cell _ (by omega)).trans h.snap,(hc.cell _ (by omega)).trans h.cnt,fun c hl=>(hc.cell _ (by omega)).trans (h.made c hl),fun c hl=>(hc.cell _ (by omega)).trans (h.filled c hl),fun c hl=>(hc.cell _ (by omega)).trans (h.val c hl),fun c hl=>(hc.cell _ (by omega)).trans (h.tm c hl),(hc.cell _ (by omega)).trans h.mks,h.ok⟩
theorem cI.fr {w w':World} {b o:Nat} {S:aI} {F:List Nat} (h:cI w b o S) (hf:Fr F w w') (hb:b<w.heap.size) (hF:b∉F):cI w' b o S:=by
 have e:∀ i,w'.cell? ⟨b,i,none⟩=w.cell? ⟨b,i,none⟩:=fun i=>by simp only[World.cell?,hf.block b hb hF]
 exact⟨(e _).trans h.num,(e _).trans h.snap,(e _).trans h.cnt,fun c hl=>(e _).trans (h.made c hl),fun c hl=>(e _).trans (h.filled c hl),fun c hl=>(e _).trans (h.val c hl),fun c hl=>(e _).trans (h.tm c hl),(e _).trans h.mks,h.ok⟩
structure y9 (b o:Nat) (S':aI) (w w':World):Prop where
 ses:cI w' b o S'
 chg:kz w w' b o 244
theorem CP (S:aI) {c:Nat} (hc:c<60) (v:Option Int):kC (S.put c v)=true:=by
 unfold kC
 rw[List.any_eq_true]
 exact⟨c,by simpa using hc,by simp[aI.put,cH]⟩
theorem aI.ok.put {S:aI} (h:S.ok) {c:Nat} (hc:c<60) (v:Option Int):(S.put c v).ok:=by
 have h0:=h.1
 refine⟨?_,?_⟩
 ·show 0≤S.made+1
  omega
 ·rw[CP S hc v]
  show decide (0<S.made+1)=true
  exact decide_eq_true (by omega)
theorem aR {w:World} {b i j:Nat} (h:i≠j) (u:Value):(w.setCell ⟨b,j,none⟩ u).cell? ⟨b,i,none⟩=w.cell? ⟨b,i,none⟩:=World.cell?_setCell_other _ _ _ _ (by intro e;injection e with e1 e2;omega)
theorem gm {w:World} {b i:Nat} {v:Value} (h:w.cell? ⟨b,i,none⟩=some v) (u:Value):(w.setCell ⟨b,i,none⟩ u).cell? ⟨b,i,none⟩=some u:=World.cell?_setCell_same _ _ _ h
theorem FP {b o c:Nat} {S:aI} {w:World} {cs:Array Value} {t:TypeId} (hb:w.heap[b]?=some (.cells cs t (0,0))) (h:cI w b o S) (hc:c<60) (v:Option Int) (ob:Obj) (m:Nat) :
  y9 b o (S.put c v) w (((mT w b o c v.isSome (v.getD 0) (S.made+1) (S.snap+(S.made+1))).alloc ob).drewN m):=by
 have hbl:=lt_of_block hb
 have hsz:(mT w b o c v.isSome (v.getD 0) (S.made+1) (S.snap+(S.made+1))).heap.size=w.heap.size:=by simp[mT,World.setCell]
 have hch:kz w (((mT w b o c v.isSome (v.getD 0) (S.made+1) (S.snap+(S.made+1))).alloc ob).drewN m) b o 244:=by
  unfold mT
  exact (((((((kz.refl w b o 244).set (by omega) (by omega) _).set (by omega) (by omega) _).set (by omega) (by omega) _).set (by omega) (by omega) _).set (by omega) (by omega) _).alloc hbl ob).drewN m
 have e0:∀ (R:World),R.heap.size=w.heap.size→∀ i,((R.alloc ob).drewN m).cell? ⟨b,i,none⟩=R.cell? ⟨b,i,none⟩:=fun R hR i=>by
  show World.cell? (World.alloc _ _) _=_
  exact World.cell?_alloc_lt _ _ _ (by rw[hR];exact hbl)
 have e:=e0 _ hsz
 have far:∀ i,i≠o+2→i≠o+3+c*4→i≠o+3+c*4+1→i≠o+3+c*4+2→i≠o+3+c*4+3→(mT w b o c v.isSome (v.getD 0) (S.made+1) (S.snap+(S.made+1))).cell? ⟨b,i,none⟩=w.cell? ⟨b,i,none⟩:=by
  intro i h1 h2 h3 h4 h5
  unfold mT
  rw[aR h5,aR h4,aR h3,aR h2,aR h1]
 refine⟨⟨?_,?_,?_,fun j hj=>?_,fun j hj=>?_,fun j hj=>?_,fun j hj=>?_,?_,h.ok.put hc v⟩,hch⟩
 ·rw[e,far _ (by omega) (by omega) (by omega) (by omega) (by omega)];exact h.num
 ·rw[e,far _ (by omega) (by omega) (by omega) (by omega) (by omega)];exact h.snap
 ·rw[e]
  unfold mT
  rw[aR (by omega),aR (by omega),aR (by omega),aR (by omega),gm h.cnt]
  rfl
 ·show World.cell? _ _=some (Value.bool (iR (cH S.wr c (some v) j)))
  rw[e]
  by_cases ej:j=c
  ·subst ej
   rw[aW]
   unfold mT
   rw[aR (by omega),aR (by omega),aR (by omega),gm (v:=.bool (iR (S.wr j))) (by rw[aR (by omega)];exact h.made j hj)]
   rfl
  ·rw[bE _ _ _ ej,far _ (by omega) (by omega) (by omega) (by omega) (by omega)];exact h.made j hj
 ·show World.cell? _ _=some (Value.bool (gU (cH S.wr c (some v) j)))
  rw[e]
  by_cases ej:j=c
  ·subst ej
   rw[aW]
   unfold mT
   rw[aR (by omega),aR (by omega),gm (v:=.bool (gU (S.wr j))) (by rw[aR (by omega),aR (by omega)];exact h.filled j hj)]
   cases v <;> rfl
  ·rw[bE _ _ _ ej,far _ (by omega) (by omega) (by omega) (by omega) (by omega)];exact h.filled j hj
 ·show World.cell? _ _=some (Value.int .i64 (q8 (cH S.wr c (some v) j)))
  rw[e]
  by_cases ej:j=c
  ·subst ej
   rw[aW]
   unfold mT
   rw[aR (by omega),gm (v:=.int .i64 (q8 (S.wr j))) (by rw[aR (by omega),aR (by omega),aR (by omega)];exact h.val j hj)]
   cases v <;> rfl
  ·rw[bE _ _ _ ej,far _ (by omega) (by omega) (by omega) (by omega) (by omega)];exact h.val j hj
 ·show World.cell? _ _=some (Value.int .i64 (cH S.tm c (S.snap+(S.made+1)) j))
  rw[e]
  by_cases ej:j=c
  ·subst ej
   rw[aW]
   unfold mT
   rw[gm (v:=.int .i64 (S.tm j)) (by rw[aR (by omega),aR (by omega),aR (by omega),aR (by omega)];exact h.tm j hj)]
  ·rw[bE _ _ _ ej,far _ (by omega) (by omega) (by omega) (by omega) (by omega)];exact h.tm j hj
 ·rw[e,far _ (by omega) (by omega) (by omega) (by omega) (by omega)];exact h.mks
theorem ai {w:World} {b:Nat} {cs:Array Value} {t:TypeId} (hb:w.heap[b]?=some (.cells cs t (0,0))) (i:Nat):w.frozen? ⟨b,i,none⟩=false:=by simp[World.frozen?,hb]
def aI.more (S:aI):Prop:=0≤S.snap∧S.snap+(S.made+1)≤9223372036854775807
theorem nV (b o c:Nat) (v:Option Int) (S:aI) (w:World) (hc:c<60) {cs:Array Value} {t:TypeId} (hb:w.heap[b]?=some (.cells cs t (0,0))) (h:cI w b o S) (hm:S.more) :
  Calls Tryz.prog 81 #[.pointer (some ⟨b,o,none⟩),.int .i64 c,.agg #[.bool v.isSome,.int .i64 (v.getD 0)]] w fun e w'=>e=.returned (.tuple #[])∧y9 b o (S.put c v) w w':=by
 refine (yc b o c v.isSome (v.getD 0) S.made S.snap w hc _ _ _ _ h.snap h.cnt h.ok.1 hm.1 hm.2 (h.made c hc) (h.filled c hc) (h.val c hc) (h.tm c hc) (ai hb) (lt_of_block hb)).mono ?_
 rintro e w' ⟨rfl,n,rfl⟩
 exact⟨rfl,FP hb h hc v _ _⟩
theorem CF (b o c:Nat) (v:Int) (S:aI) (w:World) (hc:c<60) {cs:Array Value} {t:TypeId} (hb:w.heap[b]?=some (.cells cs t (0,0))) (h:cI w b o S) (hm:S.more) :
  Calls Tryz.prog 43 #[.pointer (some ⟨b,o,none⟩),.int .i64 c,.int .i64 v] w fun e w'=>e=.returned (.tuple #[])∧y9 b o (S.put c (some v)) w w':=by
 have HR:=af (nV b o c (some v) S w hc hb h hm)
 clear hb h hm
 go_enter Tryz.func43,Tryz.ntmps43
 go_wp2_with fail
 go_at_call 81
 refine HR.out.mono ?_
 rintro e w' ⟨rfl,h⟩
 have H:=af h
 clear h
 go_wp2
 go_returns
 exact⟨rfl,H.out⟩
theorem wA (b o c:Nat) (S:aI) (w:World) (hc:c<60) {cs:Array Value} {t:TypeId} (hb:w.heap[b]?=some (.cells cs t (0,0))) (h:cI w b o S) (hm:S.more) :
  Calls Tryz.prog 48 #[.pointer (some ⟨b,o,none⟩),.int .i64 c] w fun e w'=>e=.returned (.tuple #[])∧y9 b o (S.put c none) w w':=by
 have HR:=af (nV b o c none S w hc hb h hm)
 clear hb h hm
 go_enter Tryz.func48,Tryz.ntmps48
 go_wp2_with fail
 go_at_call 81
 refine HR.out.mono ?_
 rintro e w' ⟨rfl,h⟩
 have H:=af h
 clear h
 go_wp2
 go_returns
 exact⟨rfl,H.out⟩
theorem tM {s:ByteArray} {k:Nat} (hs:2≤s.size) (hk:k<2):bt (s.extract 0 2) k=bt s k:=by
 have h1:(s.extract 0 2).size=2:=by simp;omega
 unfold bt
 rw[dif_pos (by omega),dif_pos (by omega)]
 congr 1
 congr 1
 simp[ByteArray.getElem_extract]
theorem yk (s:ByteArray) (w:World) (_hs63:s.size<9223372036854775808) :
  Calls Tryz.prog 42 #[.string s] w fun e w'=>e=.returned (ju s)∧w'=w:=by
 obtain⟨r,hr⟩:∃ r,r=ju s:=⟨_,rfl⟩
 rw[←hr]
 by_cases hs3:s.size=3
 ·have s2:2<s.size:=by omega
  have bb2:=bV s 2
  have hz:(s.extract 0 2).size=2:=by simp;omega
  have hcn:dM (s.extract 0 2)=dM s:=by unfold dM;rw[tM (by omega) (by omega),tM (by omega) (by omega)]
  have hb:eP s=(eC (s.extract 0 2)&&bM (bt s 2)):=by
   simp only[eP,eC,hs3,hz,tM (show 2≤s.size by omega) (show 0<2 by omega),tM (show 2≤s.size by omega) (show 1<2 by omega)]
   simp
  have HC:=af (fun W=>qz (s.extract 0 2) W (by omega))
  cases hc:eC (s.extract 0 2) with
  |false=>
   have e1:gG (s.extract 0 2)=.tuple #[.int .i64 0,.bool false]:=by unfold gG;rw[hc];rfl
   rw[e1] at HC
   have HU:Hid (r=.tuple #[.int .i64 0,.int .i64 0,.bool false]):=af (by rw[hr];unfold ju;rw[hb,hc];rfl)
   cases h2:bM (bt s 2) with
   |false=>
    have HD:=af (fun W=>jz (bt s 2) W bb2.1 bb2.2 h2)
    rw[bg s2] at HD
    clear hb hc h2 bb2 hr e1 hcn hz
    go_enter Tryz.func42,Tryz.ntmps42
    go_wp2_with fail
    go_at_call 47
    refine (HC.out _).mono ?_
    rintro e w' ⟨rfl,rfl⟩
    go_wp2_with fail
    go_at_call 80
    refine (HD.out _).mono ?_
    rintro e w' ⟨rfl,rfl⟩
    go_wp2
    go_ret3
    exact⟨by rw[HU.out];rfl,rfl⟩
   |true=>
    have HD:=af (fun W=>iQ (bt s 2) W bb2.1 bb2.2 h2)
    rw[bg s2] at HD
    clear hb hc h2 bb2 hr e1 hcn hz
    go_enter Tryz.func42,Tryz.ntmps42
    go_wp2_with fail
    go_at_call 47
    refine (HC.out _).mono ?_
    rintro e w' ⟨rfl,rfl⟩
    go_wp2_with fail
    go_at_call 80
    refine (HD.out _).mono ?_
    rintro e w' ⟨rfl,rfl⟩
    go_wp2
    go_ret3
    exact⟨by rw[HU.out];rfl,rfl⟩
  |true=>
   have e1:gG (s.extract 0 2)=.tuple #[.int .i64 (dM s),.bool true]:=by unfold gG;rw[hc,hcn];rfl
   rw[e1] at HC
   cases h2:bM (bt s 2) with
   |false=>
    have HU:Hid (r=.tuple #[.int .i64 0,.int .i64 0,.bool false]):=af (by rw[hr];unfold ju;rw[hb,hc,h2];rfl)
    have HD:=af (fun W=>jz (bt s 2) W bb2.1 bb2.2 h2)
    rw[bg s2] at HD
    clear hb hc h2 bb2 hr e1 hcn hz
    go_enter Tryz.func42,Tryz.ntmps42
    go_wp2_with fail
    go_at_call 47
    refine (HC.out _).mono ?_
    rintro e w' ⟨rfl,rfl⟩
    go_wp2_with fail
    go_at_call 80
    refine (HD.out _).mono ?_
    rintro e w' ⟨rfl,rfl⟩
    go_wp2
    go_ret3
    exact⟨by rw[HU.out];rfl,rfl⟩
   |true=>
    have HU:Hid (r=.tuple #[.int .i64 (dM s),.int .i64 (bt s 2 - 48),.bool true]):=af (by rw[hr];unfold ju;rw[hb,hc,h2];rfl)
    have HD:=af (fun W=>iQ (bt s 2) W bb2.1 bb2.2 h2)
    rw[bg s2] at HD HU
    clear hb hc h2 bb2 hr e1 hcn hz
    go_enter Tryz.func42,Tryz.ntmps42
    go_wp2_with fail
    go_at_call 47
    refine (HC.out _).mono ?_
    rintro e w' ⟨rfl,rfl⟩
    go_wp2_with fail
    go_at_call 80
    refine (HD.out _).mono ?_
    rintro e w' ⟨rfl,rfl⟩
    go_wp2
    go_ret3
    exact⟨by rw[HU.out];rfl,rfl⟩
 ·have HU:Hid (r=.tuple #[.int .i64 0,.int .i64 0,.bool false]):=af (by rw[hr];simp[ju,eP,hs3])
  clear hr
  go_enter Tryz.func42,Tryz.ntmps42
  go_wp2
  go_ret3
  exact⟨by rw[HU.out];rfl,rfl⟩
abbrev au:=Nat×Int×Int
def lj (q:au):Value:=.agg #[.int .i64 ((q.1:Int) / 10),.int .i64 ((q.1:Int) % 10),.int .i64 q.2.1,.int .i64 q.2.2]
theorem vp (k:Nat) (v t:Int) (w:World) (hk:k<60) :
  Calls Tryz.prog 109 #[.int .i64 k,.int .i64 v,.int .i64 t] w fun e w'=>e=.returned (lj (k,v,t))∧w.grownBy w' none:=by
 unfold lj
 go_enter Tryz.func109,Tryz.ntmps109
 go_wp2
 refine bodyPost_ret (results_cell_row Tryz.results109 _ _ _ _ _ _ _ rfl (heap_alloc_new _ _) Tryz.underlying114 rfl (by kernel_rfl)) rfl ⟨rfl,ab (ag _ _) _⟩
theorem mL (k:Nat) (v t:Int) (w:World) (hk:k<60) (hv:0≤v) (hv2:v≤9) :
  Calls Tryz.prog 50 #[lj (k,v,t)] w fun e w'=>e=.returned (.string (cz k v))∧w.grownBy w' none:=by
 have h1:(97:Int)+(k:Int) / 10≤255:=by omega
 have h2:(48:Int)+(k:Int) % 10≤255:=by omega
 have h3:(48:Int)+v≤255:=by omega
 have hcv:=run_convert_bytes_arg (P:=Tryz.prog) ((w.alloc (.cells #[.int .i64 ((k:Int) / 10),.int .i64 ((k:Int) % 10),.int .i64 v,.int .i64 t] 114)).alloc (.cells #[.int .u8 (97+(k:Int) / 10),.int .u8 (48+(k:Int) % 10),.int .u8 (48+v)] 5)) 160 5 Tryz.underlying160 Tryz.underlying5 (w.heap.size+1) 0 3 3 [97+(k:Int) / 10,48+(k:Int) % 10,48+v] rfl (by
  intro i hi
  rw[World.cell?_alloc_at _ _ _ _ (by simp)]
  match i,hi with
  |0,_=>rfl
  |1,_=>rfl
  |2,_=>rfl) 9 Tryz.underlying9
 unfold lj
 go_enter Tryz.func50,Tryz.ntmps50
 go_wp2
 go_ret
 exact⟨rfl,ab (ab (ag _ _) _) _⟩
def cq (l:List (Int×Option Int)):List Value:=l.flatMap fun p=>[.int .i64 p.1,.bool p.2.isSome,.int .i64 (p.2.getD 0)]
theorem ny (l:List (Int×Option Int)) (p:Int×Option Int):cq (l++[p])=cq l++[.int .i64 p.1,.bool p.2.isSome,.int .i64 (p.2.getD 0)]:=by simp[cq]
theorem iX:∀ (l:List (Int×Option Int)) (k:Nat) (hk:k<l.length),(cq l)[k*3]?=some (.int .i64 l[k].1)∧(cq l)[k*3+1]?=some (.bool l[k].2.isSome)∧(cq l)[k*3+2]?=some (.int .i64 (l[k].2.getD 0))
 |p::l,0,_=>⟨rfl,rfl,rfl⟩
 |p::l,k+1,hk=>by
  obtain⟨h1,h2,h3⟩:=iX l k (by simpa using hk)
  have e:cq (p::l)=.int .i64 p.1::.bool p.2.isSome::.int .i64 (p.2.getD 0)::cq l:=rfl
  rw[e,show (k+1)*3=k*3+1+1+1 by omega]
  exact⟨by simpa using h1,by simpa using h2,by simpa using h3⟩
theorem xO {l:List (Int×Option Int)} {t:Int} (h:∀ j (hj:j<l.length),¬l[j].1≤t):aM l t=(0,none):=by
 unfold aM
 have:l.reverse.find? (fun p=>decide (p.1≤t))=none:=by
  rw[List.find?_eq_none]
  intro p hp
  obtain⟨j,hj,rfl⟩:=List.mem_iff_getElem.mp (List.mem_reverse.mp hp)
  simpa using h j hj
 rw[this]
theorem xC {l:List (Int×Option Int)} {t:Int} {k:Nat} (hk:k<l.length) (h1:l[k].1≤t) (h:∀ j (hj:j<l.length),k<j→¬l[j].1≤t):aM l t=l[k]:=by
 unfold aM
 have:l.reverse.find? (fun p=>decide (p.1≤t))=some l[k]:=by
  rw[List.find?_eq_some_iff_getElem]
  refine⟨by simpa using h1,l.length - 1 - k,by simp;omega,?_,?_⟩
  ·simp only[List.getElem_reverse]
   congr 1
   omega
  ·intro j hj
   simp only[List.getElem_reverse,Bool.not_eq_true',decide_eq_false_iff_not]
   exact h _ (by omega) (by omega)
 rw[this]
def se (p:Int×Option Int):Value:=.agg #[.int .i64 p.1,.bool p.2.isSome,.int .i64 (p.2.getD 0)]
theorem yu (b o:Nat) (l:List (Int×Option Int)) (t:Int) (a:Option Addr) (m cp:Nat) (w:World) (hl:l.length≤9223372036854775807)
  (hc:w.cell? ⟨b,o+1,none⟩=some (.slice a m cp)) (h:w.ownsRow 0 138 3 (.slice a m cp) l.length (cq l)) :
  Calls Tryz.prog 94 #[.pointer (some ⟨b,o,none⟩),.int .i64 t] w fun e w'=>e=.returned (se (aM l t))∧w.grownBy w' none:=by
 have em:=ar h
 subst em
 obtain⟨r,hr⟩:∃ r,r=aM l t:=⟨_,rfl⟩
 rw[←hr]
 have HR:=af hr
 clear hr
 have hbl:=World.block_lt_of_cell? w _ hc
 have hbz:b≠w.heap.size:=by simp at hbl;omega
 go_enter Tryz.func94,Tryz.ntmps94
 go_wp2_with fail
 go_loop [5] (fun i=>∃ k:Nat,k≤l.length∧i=.int .i64 ((k:Int) - 1)∧∀ j (h:j<l.length),k≤j→¬l[j].1≤t) (fun i=>(intOf i+1).toNat)
 case atStart=>exact⟨l.length,Nat.le_refl _,rfl,fun j h1 h2=>by omega⟩
 case round=>
  obtain⟨k,hk,rfl,hno⟩:=hrel
  have HN:=af hno
  clear hno
  cases k with
  |zero=>
   have HU:Hid (r=(0,none)):=af (by rw[HR.out];exact xO (fun j hj=>HN.out j hj (Nat.zero_le _)))
   go_wp2
   refine bodyPost_ret (v:=se (0,none)) (results_cell_row Tryz.results94 _ _ _ _ _ _ _ rfl (heap_alloc_new _ _) Tryz.underlying138 rfl (by kernel_rfl)) rfl ⟨by rw[HU.out],ab (ag _ _) _⟩
  |succ k=>
   have hlt:k<l.length:=by omega
   obtain⟨g,rfl,_,hgb,hgl,hcell⟩:=aC h (by omega)
   have d0:=hcell _ _ (iX l k hlt).1
   have d1:=hcell _ _ (iX l k hlt).2.1
   have d2:=hcell _ _ (iX l k hlt).2.2
   have hk0:((k+1:Nat):Int) - 1=(k:Int):=by omega
   rw[hk0]
   clear hcell
   have hgz:g≠w.heap.size:=by omega
   obtain⟨u,hu⟩:∃ u,u=l[k].1:=⟨_,rfl⟩
   obtain⟨q,hq⟩:∃ q,q=l[k].2:=⟨_,rfl⟩
   rw[←hu] at d0
   rw[←hq] at d1 d2
   have HX:=af hu
   have HQ:=af hq
   clear hu hk0 hq
   by_cases he:u≤t
   ·have HU:Hid (r=(u,q)):=af (by rw[HR.out,HQ.out,HX.out];exact xC hlt (by rw[←HX.out];exact he) (fun j hj hkj=>HN.out j hj (by omega)))
    go_wp2
    try simp only[Exit.inBlock,Exit.then]
    refine bodyPost_ret (v:=se (u,q)) (results_cell_row Tryz.results94 _ _ _ _ _ _ _ rfl (heap_alloc_new _ _) Tryz.underlying138 rfl (by kernel_rfl)) rfl ⟨by rw[HU.out],ab (ag _ _) _⟩
   ·have HN':Hid (∀ j (h:j<l.length),k≤j→¬l[j].1≤t):=af (by
     intro j hj hkj
     by_cases e:j=k
     ·subst e;rw[←HX.out];exact he
     ·exact HN.out j hj (by omega))
    go_wp2
    go_round
    case rel=>exact⟨k,by omega,rfl,HN'.out⟩
    case measure=>simp[intOf]
end Go.Proofs.YthlhbjnkohinmaaGreat
