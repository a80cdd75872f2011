import Derived.Test.YthlhbjnkohinmaaGreatP06
namespace Go.Proofs.YthlhbjnkohinmaaGreat
set_option maxRecDepth 100000
set_option maxHeartbeats 8000000
def lJ (c:Int):Bool:=c==44||c==59||c==62
theorem sW {c:Int}(h:aR c=true):lJ c=false:=by
 simp only[aR,decide_eq_true_eq] at h
 simp only[lJ,Bool.or_eq_false_iff,beq_eq_false_iff_ne];omega
theorem pb {c:Int}(h:be c=true):lJ c=false:=by
 simp only[be,bN,ex,Bool.or_eq_true,decide_eq_true_eq] at h
 simp only[lJ,Bool.or_eq_false_iff,beq_eq_false_iff_ne];omega
theorem yu {c:Int}(h:c9 c=true):lJ c=false:=by
 simp only[c9,be,bN,ex,Bool.or_eq_true,decide_eq_true_eq,beq_iff_eq] at h
 simp only[lJ,Bool.or_eq_false_iff,beq_eq_false_iff_ne];omega
theorem D9 {c:Int}(h:gE c=true):lJ c=false:=by
 simp only[gE,Bool.or_eq_true,beq_iff_eq] at h
 simp only[lJ,Bool.or_eq_false_iff,beq_eq_false_iff_ne];omega
theorem EM {c:Int}(h:ff c=true):lJ c=false:=by
 simp only[ff,Bool.or_eq_true,beq_iff_eq] at h
 simp only[lJ,Bool.or_eq_false_iff,beq_eq_false_iff_ne];omega
def iD (s:ByteArray)(i j:Nat):Prop:=∀ q,i≤q→q<j→lJ (bt s q)=false
theorem iD.one {s:ByteArray}{i:Nat}(h:lJ (bt s i)=false):iD s i (i+1):=fun q h1 h2=>by rw[show q=i by omega];exact h
theorem iD.trans {s:ByteArray}{i j k:Nat}(h:iD s i j)(g:iD s j k):iD s i k:=fun q h1 h2=>by
 by_cases hq:q<j
 ·exact h q h1 hq
 ·exact g q (by omega) h2
theorem iD.snoc {s:ByteArray}{i j:Nat}(h:iD s i j)(g:lJ (bt s j)=false):iD s i (j+1):=h.trans (.one g)
theorem vk {s:ByteArray}{i:Nat}(h:bz s i=3):iD s i (i+3):=by
 unfold bz at h
 split at h
 ·split at h
  ·split at h
   ·rename_i h0 h1 h2
    exact ((iD.one (sW h0)).snoc (yu h1)).snoc (yu h2)
   ·omega
  ·omega
 ·omega
theorem CY {s:ByteArray}{i:Nat}(h:bT s i=3):iD s i (i+3):=by
 unfold bT at h
 split at h
 ·split at h
  ·split at h
   ·rename_i h0 h1 h2
    exact ((iD.one (pb h0)).snoc (D9 h1)).snoc (pb h2)
   ·omega
  ·omega
 ·omega
theorem lA {s:ByteArray}{i:Nat}(h:b7 s i=true):iD s i (i+aH s i):=by
 unfold b7 at h;unfold aH
 by_cases h33:bt s i=33
 ·simp only[h33,if_true] at h ⊢
  have hp:bz s (i+1)=3:=by simpa using h
  rw[hp]
  exact (iD.one (by rw[h33];decide)).trans (vk hp)
 ·by_cases hc:aR (bt s i)=true
  ·simp only[h33,hc,if_false,if_true] at h ⊢
   have hp:bz s i=3:=by simpa using h
   rw[hp];exact vk hp
  ·simp only[h33,hc,if_false] at h ⊢
   have hp:bT s i=3:=by simpa using h
   rw[hp];exact CY hp
theorem sT {s:ByteArray}{i:Nat}(h:be (bt s i)=true):iD s i (db s i):=by
 unfold db
 split
 ·rename_i ht;exact (iD.one (pb h)).snoc (EM ht)
 ·exact iD.one (pb h)
theorem pe {s:ByteArray}{i:Nat}(h:cT s i=true):iD s i (i+aS s i):=by
 unfold cT at h;unfold aS
 by_cases h43:bt s i=43
 ·simp only[h43,if_true] at h ⊢
  simp only[fJ,Bool.and_eq_true] at h
  obtain⟨⟨h0,h1⟩,h2⟩:=h
  have hj:=eB s (i+1+1)
  have hj2:=eB s (db s (i+1+1))
  have e:i+(1+cR s (i+1))=db s (db s (i+1+1)):=by simp[cR,h0,h1,h2];omega
  rw[e]
  exact (((iD.one (by rw[h43];decide)).snoc (sW h0)).trans (sT h1)).trans (sT h2)
 ·by_cases h45:bt s i=45
  ·simp only[h45,if_true,show ¬(45:Int)=43 by decide,if_false] at h ⊢
   simp only[gm,Bool.and_eq_true] at h
   obtain⟨h0,h1⟩:=h
   have hj:=eB s (i+1+1)
   have e:i+(1+da s (i+1))=db s (i+1+1):=by simp[da,h0,h1];omega
   rw[e]
   exact ((iD.one (by rw[h45];decide)).snoc (sW h0)).trans (sT h1)
  ·simp only[h43,h45,if_false,beq_iff_eq] at h
   simp only[h,if_true,show ¬(46:Int)=43 by decide,show ¬(46:Int)=45 by decide,if_false]
   exact iD.one (by rw[h];decide)
theorem jS {s:ByteArray}{a b:Int}(ha:lJ a=true)(hb:lJ b=true):∀ (m n f i:Nat),iD s i (i+m)→d9 s a b (m+n) f i=d9 s a b n f (i+m)
 |0,n,f,i,_=>by simp
 |m+1,n,f,i,h=>by
  have h0:=h i (by omega) (by omega)
  rw[show m+1+n=(m+n)+1 by omega,d9,if_neg (by
   rintro (e|e)
   ·rw[e,ha] at h0;cases h0
   ·rw[e,hb] at h0;cases h0),jS ha hb m n f (i+1) (fun q h1 h2=>h q (by omega) (by omega)),show i+1+m=i+(m+1) by omega]
theorem EP {s:ByteArray}{i:Nat}{L:List Nat}{j:Nat}{ok:Bool}(h:jA s i L j ok):ok=true→d9 s 44 62 (j - i) i i=L.map fun p=>(p,p+aH s p):=by
 refine jA.ind (M:=fun i L j ok=>ok=true→d9 s 44 62 (j - i) i i=L.map fun p=>(p,p+aH s p)) ?_ ?_ ?_ ?_ ?_ h
 ·intro _ _
  intro h;cases h
 ·intro _ _ _
  intro h;cases h
 ·intro i' _ h he
  intro _
  rw[show i'+aH s i'+1 - i'=aH s i'+1 by omega,jS (by decide) (by decide) _ 1 _ _ (lA h),d9,if_pos (.inr he)]
  rfl
 ·intro _ _ _ _ _
  intro h;cases h
 ·intro i' L' j' _ _ h he hn ih
  intro e
  have hle:=sJ hn
  rw[show j' - i'=aH s i'+((j' - (i'+aH s i'+1))+1) by omega,jS (by decide) (by decide) _ _ _ _ (lA h),d9,if_pos (.inl he),ih e]
  rfl
theorem Ey {s:ByteArray}{i:Nat}{L:List Nat}{j:Nat}{ok:Bool}(h:jY s i L j ok):ok=true→d9 s 44 59 (j - i) i i=L.map fun p=>(p,p+aS s p):=by
 refine jY.ind (M:=fun i L j ok=>ok=true→d9 s 44 59 (j - i) i i=L.map fun p=>(p,p+aS s p)) ?_ ?_ ?_ ?_ ?_ h
 ·intro _ _
  intro h;cases h
 ·intro _ _ _
  intro h;cases h
 ·intro i' _ h he
  intro _
  rw[show i'+aS s i'+1 - i'=aS s i'+1 by omega,jS (by decide) (by decide) _ 1 _ _ (pe h),d9,if_pos (.inr he)]
  rfl
 ·intro _ _ _ _ _
  intro h;cases h
 ·intro i' L' j' _ _ h he hn ih
  intro e
  have hle:=wF hn
  rw[show j' - i'=aS s i'+((j' - (i'+aS s i'+1))+1) by omega,jS (by decide) (by decide) _ _ _ _ (pe h),d9,if_pos (.inl he),ih e]
  rfl
def No (s:ByteArray)(c:Int)(i j:Nat):Prop:=∀ q,i≤q→q<j→bt s q≠c
theorem No.trans {s:ByteArray}{c:Int}{i j k:Nat}(h:No s c i j)(g:No s c j k):No s c i k:=fun q h1 h2=>by
 by_cases hq:q<j
 ·exact h q h1 hq
 ·exact g q (by omega) h2
theorem No.one {s:ByteArray}{c:Int}{i:Nat}(h:bt s i≠c):No s c i (i+1):=fun q h1 h2=>by rw[show q=i by omega];exact h
theorem No.bare {s:ByteArray}{c:Int}(hc:lJ c=true){i j:Nat}(h:iD s i j):No s c i j:=fun q h1 h2 e=>by
 have:=h q h1 h2;rw[e,hc] at this;cases this
def cY (s:ByteArray)(L:List Nat):Nat:=L.getLastD 0+aH s (L.getLastD 0)
def bO (s:ByteArray)(L:List Nat):Nat:=L.getLastD 0+aS s (L.getLastD 0)
theorem qG {L:List Nat}(a:Nat)(h:L≠[]):(a::L).getLastD 0=L.getLastD 0:=by
 cases L with
 |nil=>exact absurd rfl h
 |cons b L=>simp[List.getLastD]
theorem nq {s:ByteArray}{i:Nat}{L:List Nat}{j:Nat}{ok:Bool}(h:jA s i L j ok):ok=true→L≠[]∧j=cY s L+1∧bt s (cY s L)=62∧No s 62 i (cY s L)∧No s 59 i (cY s L)∧i≤cY s L:=by
 refine jA.ind (M:=fun i L j ok=>ok=true→L≠[]∧j=cY s L+1∧bt s (cY s L)=62∧No s 62 i (cY s L)∧No s 59 i (cY s L)∧i≤cY s L) ?_ ?_ ?_ ?_ ?_ h
 ·intro _ _
  intro h;cases h
 ·intro _ _ _
  intro h;cases h
 ·intro i' _ h he
  intro _;exact⟨by simp,rfl,he,.bare (by decide) (lA h),.bare (by decide) (lA h),by simp[cY]⟩
 ·intro _ _ _ _ _
  intro h;cases h
 ·intro i' L' j' _ _ h he hn ih
  intro e
  obtain⟨h1,h2,h3,h4,h5,h6⟩:=ih e
  have hd:cY s (i'::L')=cY s L':=by unfold cY;rw[qG i' h1]
  rw[hd]
  exact⟨by simp,h2,h3,((No.bare (by decide) (lA h)).trans (.one (by rw[he];decide))).trans h4,((No.bare (by decide) (lA h)).trans (.one (by rw[he];decide))).trans h5,by omega⟩
theorem mY {s:ByteArray}{i:Nat}{L:List Nat}{j:Nat}{ok:Bool}(h:jY s i L j ok):ok=true→L≠[]∧j=bO s L+1∧bt s (bO s L)=59∧No s 59 i (bO s L)∧i≤bO s L∧bO s L<s.size:=by
 refine jY.ind (M:=fun i L j ok=>ok=true→L≠[]∧j=bO s L+1∧bt s (bO s L)=59∧No s 59 i (bO s L)∧i≤bO s L∧bO s L<s.size) ?_ ?_ ?_ ?_ ?_ h
 ·intro _ _
  intro h;cases h
 ·intro _ _ _
  intro h;cases h
 ·intro i' _ h he
  intro _;exact⟨by simp,rfl,he,.bare (by decide) (pe h),by simp[bO],dg (by show bt s (i'+aS s i')≠0;omega)⟩
 ·intro _ _ _ _ _
  intro h;cases h
 ·intro i' L' j' _ _ h he hn ih
  intro e
  obtain⟨h1,h2,h3,h4,h5,h6⟩:=ih e
  have hd:bO s (i'::L')=bO s L':=by unfold bO;rw[qG i' h1]
  rw[hd]
  exact⟨by simp,h2,h3,((No.bare (by decide) (pe h)).trans (.one (by rw[he];decide))).trans h4,by omega,h6⟩
theorem yC {s:ByteArray}{a:Int}:∀ (m n f i:Nat),No s a i (i+m)→d9 s a a (m+n) f i=d9 s a a n f (i+m)
 |0,n,f,i,_=>by simp
 |m+1,n,f,i,h=>by
  have h0:=h i (by omega) (by omega)
  rw[show m+1+n=(m+n)+1 by omega,d9,if_neg (by rintro (e|e) <;> exact h0 e),yC m n f (i+1) (fun q h1 h2=>h q (by omega) (by omega)),show i+1+m=i+(m+1) by omega]
structure fX (s:ByteArray)(r:ay):Prop where
 dig:bN (bt s r.1)=true
 colon:bt s (r.1+1)=58
 conds:jA s (r.1+2) r.2.1 (cY s r.2.1+1) true
 acts:jY s (cY s r.2.1+1) r.2.2 (bO s r.2.2+1) true
theorem fX.of {s:ByteArray}{i:Nat}{L K:List Nat}{j:Nat}(h:q8 s i L K j true):fX s (i,L,K)∧j=bO s K+1:=by
 obtain⟨j1,hd,h1,hc,ha⟩:=h.yes
 have e1:=(nq hc rfl).2.1
 have e2:=(mY ha rfl).2.1
 subst e1 e2
 exact⟨⟨hd,h1,hc,ha⟩,rfl⟩
theorem Cn {c:Int}(h:bN c=true):c≠59∧c≠62:=by
 simp only[bN,decide_eq_true_eq] at h;omega
theorem fX.no59 {s:ByteArray}{r:ay}(h:fX s r):No s 59 r.1 (bO s r.2.2):=by
 have hc:=nq h.conds rfl
 have ha:=mY h.acts rfl
 exact ((((No.one (Cn h.dig).1).trans (.one (by rw[h.colon];decide))).trans hc.2.2.2.2.1).trans (.one (by rw[hc.2.2.1];decide))).trans ha.2.2.2.1
theorem fX.no62 {s:ByteArray}{r:ay}(h:fX s r):No s 62 r.1 (cY s r.2.1):=by
 have hc:=nq h.conds rfl
 exact ((No.one (Cn h.dig).2).trans (.one (by rw[h.colon];decide))).trans hc.2.2.2.1
theorem tQ {s:ByteArray}{i:Nat}{R:List ay}{j:Nat}{ok:Bool}(h:kS s i R j ok):ok=true→d9 s 59 59 (j - i) i i=(R.map fun r=>(r.1,bO s r.2.2))∧∀ r∈R,fX s r:=by
 refine kS.ind (M:=fun i R j ok=>ok=true→d9 s 59 59 (j - i) i i=(R.map fun r=>(r.1,bO s r.2.2))∧∀ r∈R,fX s r) ?_ ?_ ?_ h
 ·intro _ _
  intro _;simp[d9]
 ·intro _ _ _ _ _ _
  intro h;cases h
 ·intro i' L K j1 R' j' _ hi h hn ih
  intro e
  obtain⟨hk,hj⟩:=fX.of h
  obtain⟨e1,e2⟩:=ih e
  have hle:=ph hn
  have ha:=mY hk.acts rfl
  have hc:=nq hk.conds rfl
  have h1:i'+2≤cY s L:=hc.2.2.2.2.2
  have h2:cY s L+1≤bO s K:=ha.2.2.2.2.1
  have h3:bt s (bO s K)=59:=ha.2.2.1
  have hno:No s 59 i' (bO s K):=hk.no59
  subst hj
  refine⟨?_,?_⟩
  ·rw[show j' - i'=(bO s K - i')+((j' - (bO s K+1))+1) by omega,yC _ _ _ _ (by rw[show i'+(bO s K - i')=bO s K by omega];exact hno),show i'+(bO s K - i')=bO s K by omega,d9,if_pos (.inl h3),e1]
   rfl
  ·intro r hr
   rcases List.mem_cons.mp hr with rfl|hr
   ·exact hk
   ·exact e2 r hr
open Go.RowKit
theorem dd {s:ByteArray}{a b:Nat}(_hb:b≤s.size):(s.extract a b).size=b - a:=by
 rw[ByteArray.size_extract];omega
theorem iR {s:ByteArray}{a b k:Nat}(hb:b≤s.size)(hk:a+k<b):bt (s.extract a b) k=bt s (a+k):=by
 have h1:k<(s.extract a b).size:=by rw[dd hb];omega
 rw[bh h1,bh (show a+k<s.size by omega)]
 rw[ByteArray.getElem_extract]
theorem qg {s:ByteArray}{a b c d:Nat}(_hb:b≤s.size)(hd:a+d≤b):(s.extract a b).extract c d=s.extract (a+c) (a+d):=by
 rw[ByteArray.extract_extract]
 congr 1
 omega
theorem D5 {s:ByteArray}{x y:Nat}(h:bt s y=59)(hx:x≤y)(hy:y<s.size):s.extract x y++⟨#[59]⟩=s.extract x (y+1):=by
 have hb:s[y]=59:=by
  rw[bh hy] at h
  exact UInt8.toNat_inj.mp (by show s[y].toNat=59;omega)
 apply ByteArray.ext
 apply Array.toList_inj.mp
 rw[ByteArray.data_append,Array.toList_append,Lib.extract_data,Lib.extract_data]
 rw[show y+1 - x=(y - x)+1 by omega,List.take_succ_eq_append_getElem (by simp;have:s.data.size=s.size:=rfl;omega)]
 congr 1
 simp only[List.getElem_drop,Array.getElem_toList,show x+(y - x)=y by omega]
 show [59]=[s[y]]
 rw[hb]
theorem ma {s:ByteArray}{a b:Int}:∀ (n f i:Nat),f≤i→∀ p∈d9 s a b n f i,f≤p.1∧p.1≤p.2∧p.2<i+n
 |0,_,_,_,p,hp=>by simp[d9] at hp
 |n+1,f,i,hf,p,hp=>by
  rw[d9] at hp
  split at hp
  ·rcases List.mem_cons.mp hp with rfl|hp
   ·exact⟨Nat.le_refl _,hf,by simp⟩
   ·have:=ma n (i+1) (i+1) (Nat.le_refl _) p hp
    omega
  ·have:=ma n f (i+1) (by omega) p hp
   omega
theorem kq {s:ByteArray}{a b:Int}{c d:Nat}(hd:d≤s.size):∀ (n f i:Nat),c+i+n≤d→d9 (s.extract c d) a b n f i=(d9 s a b n (c+f) (c+i)).map fun p=>(p.1 - c,p.2 - c)
 |0,_,_,_=>rfl
 |n+1,f,i,h=>by
  rw[d9,d9,iR hd (by omega)]
  split
  ·rw[kq hd n (i+1) (i+1) (by omega)]
   simp only[List.map_cons]
   rw[show c+f - c=f by omega,show c+i - c=i by omega,show c+(i+1)=c+i+1 by omega]
  ·rw[kq hd n f (i+1) (by omega),show c+(i+1)=c+i+1 by omega]
theorem pt {s:ByteArray}{a b:Int}{c d:Nat}(hd:d≤s.size)(hc:c≤d):lL (s.extract c d) (d9 (s.extract c d) a b (s.extract c d).size 0 0)=lL s (d9 s a b (d - c) c c):=by
 rw[dd hd,kq hd _ _ _ (by omega)]
 unfold lL
 rw[List.map_map]
 apply List.map_congr_left
 intro p hp
 have:=ma _ _ _ (Nat.le_refl _) p hp
 simp only[Function.comp]
 rw[qg hd (by omega),show c+(p.1 - c)=p.1 by omega,show c+(p.2 - c)=p.2 by omega]
theorem rX {s:ByteArray}{a b:Int}{c d:Nat}(hd:d≤s.size)(hc:c≤d):(d9 (s.extract c d) a b (s.extract c d).size 0 0).length=(d9 s a b (d - c) c c).length:=by
 rw[dd hd,kq hd _ _ _ (by omega),List.length_map]
 simp
def dL (s:ByteArray)(L:List Nat):List Value:=L.map fun p=>.string (s.extract p (p+aH s p))
def gF (s:ByteArray)(L:List Nat):List Value:=L.map fun p=>.string (s.extract p (p+aS s p))
theorem Fc (s:ByteArray)(L:List Nat):lL s (L.map fun p=>(p,p+aH s p))=dL s L:=by unfold lL dL;rw[List.map_map];rfl
theorem E4 (s:ByteArray)(L:List Nat):lL s (L.map fun p=>(p,p+aS s p))=gF s L:=by unfold lL gF;rw[List.map_map];rfl
def fZ (w:World)(B:Nat)(s:ByteArray):List ay→List Value→Prop
 |[],xs=>xs=[]
 |r::R,xs=>∃ a1 m1 c1 a2 m2 c2 ys,xs=.int .i64 (bt s r.1 - 48)::.slice a1 m1 c1::.slice a2 m2 c2::ys∧
   w.ownsRow B 9 1 (.slice a1 m1 c1) r.2.1.length (dL s r.2.1)∧w.ownsRow B 9 1 (.slice a2 m2 c2) r.2.2.length (gF s r.2.2)∧fZ w B s R ys
theorem oL {w:World}{B:Nat}{s:ByteArray}{i:Nat}{L K:List Nat}{a1:Option Addr}{m1 c1:Nat}{a2:Option Addr}{m2 c2:Nat}
  (h1:w.ownsRow B 9 1 (.slice a1 m1 c1) L.length (dL s L)) (h2:w.ownsRow B 9 1 (.slice a2 m2 c2) K.length (gF s K)) :
  ∀ (R:List ay) (xs:List Value),fZ w B s R xs→fZ w B s (R++[(i,L,K)]) (xs++[.int .i64 (bt s i - 48),.slice a1 m1 c1,.slice a2 m2 c2])
 |[],xs,h=>by
  have h:xs=[]:=h
  subst h
  exact⟨a1,m1,c1,a2,m2,c2,[],rfl,h1,h2,rfl⟩
 |r::R,xs,h=>by
  obtain⟨b1,n1,d1,b2,n2,d2,ys,rfl,k1,k2,k3⟩:=h
  exact⟨b1,n1,d1,b2,n2,d2,ys++_,rfl,k1,k2,oL h1 h2 R ys k3⟩
theorem ie {w w':World}{B:Nat}{s:ByteArray}{row:Option Nat}(hg:w.grownBy w' row)
  (hrow:∀ g,row=some g→∃ cs t,w.heap[g]?=some (.cells cs t (0,0))∧9≠t):∀ (R:List ay) (xs:List Value),fZ w B s R xs→fZ w' B s R xs
 |[],_,h=>h
 |r::R,xs,h=>by
  obtain⟨b1,n1,d1,b2,n2,d2,ys,rfl,k1,k2,k3⟩:=h
  exact⟨b1,n1,d1,b2,n2,d2,ys,rfl,aq k1 hg hrow,aq k2 hg hrow,ie hg hrow R ys k3⟩
theorem iE {w:World}{B:Nat}{s:ByteArray}:∀ (R:List ay) (xs:List Value),fZ w B s R xs→∀ (k:Nat) (hk:k<R.length),∃ a1 m1 c1 a2 m2 c2,xs[k*3]?=some (.int .i64 (bt s R[k].1 - 48))∧xs[k*3+1]?=some (.slice a1 m1 c1)∧xs[k*3+2]?=some (.slice a2 m2 c2)∧
  w.ownsRow B 9 1 (.slice a1 m1 c1) R[k].2.1.length (dL s R[k].2.1)∧w.ownsRow B 9 1 (.slice a2 m2 c2) R[k].2.2.length (gF s R[k].2.2)
 |r::R,xs,h,0,_=>by
  obtain⟨b1,n1,d1,b2,n2,d2,ys,rfl,k1,k2,k3⟩:=h
  exact⟨b1,n1,d1,b2,n2,d2,rfl,rfl,rfl,k1,k2⟩
 |r::R,xs,h,k+1,hk=>by
  obtain⟨b1,n1,d1,b2,n2,d2,ys,rfl,k1,k2,k3⟩:=h
  obtain⟨a1,m1,c1,a2,m2,c2,e1,e2,e3,e4,e5⟩:=iE R ys k3 k (by simpa using hk)
  have f1:(k+1)*3=k*3+1+1+1:=by omega
  rw[f1]
  exact⟨a1,m1,c1,a2,m2,c2,by simpa using e1,by simpa using e2,by simpa using e3,by simpa using e4,by simpa using e5⟩
theorem sg {w:World}{base:Nat}{e t:TypeId}{size:Nat}{v:Value}{n:Nat}{xs:List Value}(h:w.ownsRow base e size v n xs)(ht:t≠e):∀ g,v.ownBlock=some g→∃ cs t',w.heap[g]?=some (.cells cs t' (0,0))∧t≠t':=by
 intro g hg
 obtain⟨cs,hcs⟩:=fA h g hg
 exact⟨cs,_,hcs,ht⟩
def jz (w:World)(B:Nat)(s:ByteArray)(v:Value)(R:List ay):Prop:=∃ xs,w.ownsRow B 155 3 v R.length xs∧fZ w B s R xs
theorem Tryz.info155:(Tryz.prog.info? 155).map (fun i=>(i.zero,i.size,i.bytes))=some (some (.agg #[.int .i64 0,.slice none 0 0,.slice none 0 0]),3,56):=by kernel_rfl
theorem AK (s:ByteArray)(R:List ay)(w:World)(hs:s.size≤400)(hR:kS s 0 R s.size true):
  Calls Tryz.prog 77 #[.string s] w fun e w'=>∃ v,e=.returned v∧jz w' w.heap.size s v R∧w.grownBy w' none:=by
 obtain⟨hcut,hall⟩:=tQ hR rfl
 have hlen:=ph hR
 rw[Nat.sub_zero] at hcut
 have HALL:=af hall
 obtain⟨i0,hi0,hz0,hz1,hz2⟩:=info_parts Tryz.info155
 have HC:=af (tg s 59 59 w (by omega) (by omega) (by omega))
 rw[hcut] at HC
 clear hcut hall hR
 go_enter Tryz.func77,Tryz.ntmps77
 go_wp2_with fail
 go_at_call 106
 refine HC.out.mono ?_
 rintro e w0 ⟨v0,rfl,hown0,hg0⟩
 rw[List.length_map] at hown0
 obtain⟨a0,m0,k0,rfl⟩:=an hown0
 have e0:=ar hown0
 subst e0
 clear HC
 go_wp2_with fail
 go_loopw [3,5] (fun v t wr=>∃ (k:Nat) (xs:List Value),k≤R.length∧t=.int .i64 k∧wr.ownsRow w.heap.size 155 3 v (R.take k).length xs∧fZ wr w.heap.size s (R.take k) xs∧wr.ownsRow w.heap.size 9 1 (.slice a0 R.length k0) R.length (lL s (R.map fun r=>(r.1,bO s r.2.2)))∧w.grownBy wr none) (fun _ t _=>R.length - (intOf t).toNat)
 case atStart=>exact⟨0,[],Nat.zero_le _,rfl,World.ownsRow_nil _ _ _ _,rfl,hown0,hg0⟩
 case round=>
  clear hown0 hg0
  obtain⟨k,xs,hk,rfl,hown,hpar,hown0,hg⟩:=hrel
  have HP:=af hpar
  clear hpar
  by_cases hlt:k<R.length
  ·have hok:=HALL.out R[k] (List.getElem_mem hlt)
   obtain⟨g,rfl,_,hgb,hgl,hcell⟩:=aE hown0 (by omega)
   have hce:wr.cell? ⟨g,k,none⟩=some (.string (s.extract R[k].1 (bO s R[k].2.2))):=hcell k _ (by simp[lL,hlt])
   clear hcell
   obtain⟨T,hT⟩:∃ T,T=R[k]:=⟨_,rfl⟩
   rw[←hT] at hce hok
   have HT:=af hT
   clear hT
   obtain⟨i,L,K⟩:=T
   have hcE:=nq hok.conds rfl
   have haE:=mY hok.acts rfl
   have b1:i+2≤cY s L:=hcE.2.2.2.2.2
   have b2:cY s L+1≤bO s K:=haE.2.2.2.2.1
   have b3:bO s K<s.size:=haE.2.2.2.2.2
   have HOK:=af hok
   have HCE:=af hcE
   have HAE:=af haE
   clear hok hcE haE
   change wr.cell? ⟨g,k,none⟩=some (.string (s.extract i (bO s K))) at hce
   obtain⟨u,hu⟩:∃ u,u=s.extract i (bO s K):=⟨_,rfl⟩
   rw[←hu] at hce
   obtain⟨N,hN⟩:∃ N,N=cY s L - i:=⟨_,rfl⟩
   have husz:u.size=bO s K - i:=by rw[hu,dd (by omega)]
   have hub:∀ n (h:n<u.size),(u[n].toNat:Int)=bt s (i+n):=by
    intro n h
    rw[←bh h,hu,iR (by omega) (by omega)]
   have u1:N+1≤u.size:=by omega
   have u2:u.size≤400:=by omega
   have u3:2≤N:=by omega
   have u0:0<u.size:=by omega
   have hx1:u.extract 2 (N+1)=s.extract (i+2) (cY s L+1):=by rw[hu,qg (by omega) (by omega),show i+(N+1)=cY s L+1 by omega]
   have hx2:u.extract (N+1) u.size++⟨#[59]⟩=s.extract (cY s L+1) (bO s K+1):=by
    rw[husz,hu,qg (by omega) (by omega),show i+(N+1)=cY s L+1 by omega,show i+(bO s K - i)=bO s K by omega,D5 HAE.out.2.2.1 (by omega) (by omega)]
   have HC1:Hid (∀ W:World,Calls Tryz.prog 106 #[.string (u.extract 2 (N+1)),.int .u8 44,.int .u8 62] W fun e w'=>∃ v,e=.returned v∧w'.ownsRow W.heap.size 9 1 v L.length (dL s L)∧W.grownBy w' none):=af (by
    intro W
    have:=tg (u.extract 2 (N+1)) 44 62 W (by rw[hx1,dd (by omega)];omega) (by omega) (by omega)
    rw[hx1,pt (by omega) (by omega),rX (by omega) (by omega),EP HOK.out.conds rfl,Fc,List.length_map] at this
    rw[hx1]
    exact this)
   have HC2:Hid (∀ W:World,Calls Tryz.prog 106 #[.string (u.extract (N+1) u.size++⟨#[59]⟩),.int .u8 44,.int .u8 59] W fun e w'=>∃ v,e=.returned v∧w'.ownsRow W.heap.size 9 1 v K.length (gF s K)∧W.grownBy w' none):=af (by
    intro W
    have:=tg (u.extract (N+1) u.size++⟨#[59]⟩) 44 59 W (by rw[hx2,dd (by omega)];omega) (by omega) (by omega)
    rw[hx2,pt (by omega) (by omega),rX (by omega) (by omega),Ey HOK.out.acts rfl,E4,List.length_map] at this
    rw[hx2]
    exact this)
   have hd0:48≤((u[0]'u0).toNat:Int)∧((u[0]'u0).toNat:Int)≤57:=by
    rw[hub 0 u0]
    simpa [bN] using HOK.out.dig
   have HW:Hid (((u[0]'u0).toNat:Int)=bt s i):=af (hub 0 u0)
   have HNO:Hid (∀ n (h:n<N) (hv:n<u.size),(((u[n]'hv).toNat:Int) != 62)=true):=af (by
    intro n h hv
    have:=HOK.out.no62 (i+n) (by omega) (by show i+n<cY s L;omega)
    rw[hub n hv]
    simpa using this)
   have HYES:Hid (((u[N]'u1).toNat:Int)=62):=af (by rw[hub N u1,show i+N=cY s L by omega];exact HCE.out.2.2.1)
   have hsz:=hg.size
   have HU2:Hid ((u.extract (N+1) u.size).size≤400):=af (by rw[dd (Nat.le_refl _)];omega)
   clear hx1 hx2 hub husz hu hN
   go_wp2_with fail
   go_loop [6] (fun t=>∃ n:Nat,n≤N∧t=.int .i64 n) (fun t=>N - (intOf t).toNat)
   case atStart=>exact⟨0,Nat.zero_le _,rfl⟩
   case round=>
    obtain⟨n,hn,rfl⟩:=hrel
    by_cases hnl:n<N
    ·have hn1:n<u.size:=by omega
     have hq:=HNO.out n hnl hn1
     go_wp2
     go_round
     case rel=>exact⟨n+1,by omega,by go_num⟩
     case measure=>simp[intOf];omega
    ·have hnN:n=N:=by omega
     subst hnN
     have hq:(((u[n]'u1).toNat:Int) != 62)=false:=by simp[HYES.out]
     clear hnl
     go_wp2_with fail
     go_at_call 106
     refine (HC1.out _).mono ?_
     rintro e w1 ⟨v1,rfl,ho1,hg1⟩
     obtain⟨a1,m1,k1,rfl⟩:=an ho1
     have hce1:=hg1.cell hce (by simp)
     have hU2:=HU2.out
     have hU3:(⟨#[59]⟩:ByteArray).size=1:=rfl
     go_wp2_with fail
     go_at_call 106
     refine (HC2.out _).mono ?_
     rintro e w2 ⟨v2,rfl,ho2,hg2⟩
     obtain⟨a2,m2,k2,rfl⟩:=an ho2
     have hce2:=hg2.cell hce1 (by simp)
     have hg12:=ae hg1 hg2
     have hsz1:=hg1.size
     have hsz2:=hg2.size
     have hown2:=aq hown hg12 (fun g hg=>by cases hg)
     clear hU2 hU3
     go_wp2_with (first|(at_builtin;refine wpList_append_own _ rfl (.tmp 43) (.tmp 54) 35 rfl (w.heap.size) 155 i0 (.agg #[.int .i64 0,.slice none 0 0,.slice none 0 0]) 3 56 Tryz.underlying35 hi0 hz0 hz1 hz2 rfl (by decide) _ _ _ rfl (hown2.alloc _) _ 1 1 [.int .i64 (((u[0]'u0).toNat:Int) - 48),.slice a1 m1 k1,.slice a2 m2 k2] rfl rfl ?c1 ?c2 ?c3 ?c4 ?c5 ?_))
     case c1=>intro j u hj;exact bj hj
     case c2=>intro u hu;simp at hu;rcases hu with h|h|h <;> subst h <;> rfl
     case c3=>have:(R.take k).length≤R.length:=by simp;omega
              unfold maxLen;omega
     case c4=>have:(R.take k).length≤R.length:=by simp;omega
              omega
     case c5=>simp;omega
     ·intro v' w3 hown3 hg3 _
      have ht:R.take (k+1)=R.take k++[(i,L,K)]:=by rw[List.take_succ_eq_append_getElem hlt,HT.out]
      have o1:=bP (aq ho1 hg2 (fun g hg=>by cases hg)) hsz
      have o2:=bP (base':=w.heap.size) ho2 (by omega)
      have HP2:=oL (i:=i) o1 o2 (R.take k) xs (ie hg12 (fun g hg=>by cases hg) _ _ HP.out)
      rw[←ht,←HW.out] at HP2
      have HP3:Hid (fZ w3 w.heap.size s (R.take (k+1)) _):=af (ie hg3 (sg (hown2.alloc _) (by decide)) _ _ (ie (World.grownBy_alloc w2 _ none) (fun g hg=>by cases hg) _ _ HP2))
      have hown0':=aq ((aq hown0 hg12 (fun g hg=>by cases hg)).alloc _) hg3 (sg (hown2.alloc _) (by decide))
      have hg3':w.grownBy w3 none:=aL (ab (ae hg hg12) _) hg3 (fun g hg=>(hown.lt g hg).1)
      have hown3':w3.ownsRow w.heap.size 155 3 v' (R.take (k+1)).length (xs++[.int .i64 (((u[0]'u0).toNat:Int) - 48),.slice a1 m1 k1,.slice a2 m2 k2]):=by
       have hl:(R.take (k+1)).length=k+1:=by simp;omega
       rw[hl];simpa [Nat.min_eq_left hk] using hown3
      clear hown3 hg3 hown2 hown hg2 hg1 hg12 ho1 ho2 hce hce1 hce2 hown0 hg o1 o2 HP2 ht
      go_wp2
      go_roundw
      case rel=>exact⟨k+1,_,by omega,by go_num,hown3',HP3.out,hown0',hg3'⟩
      case measure=>simp[intOf];omega
  ·go_wp2
   go_ret
   have e:R.take k=R:=List.take_of_length_le (by omega)
   rw[e] at hown HP
   exact⟨_,rfl,⟨xs,hown,HP.out⟩,hg⟩
theorem sY {s:ByteArray}{p:Nat}(h:b7 s p=true):3≤aH s p∧p+aH s p≤s.size∧(aR (bt s p)=true→aH s p=3):=by
 have hg:=pi h
 unfold b7 at h
 by_cases h33:bt s p=33
 ·have hlt:p<s.size:=dg (by omega)
  have hle:=lh hlt
  simp only[h33,if_true] at h
  have e:aH s p=4:=by unfold aH;simp only[h33,if_true];have:bz s (p+1)=3:=by simpa using h
                      omega
  exact⟨by omega,hle,fun hc=>by rw[h33] at hc;exact absurd hc (by decide)⟩
 ·by_cases hc:aR (bt s p)=true
  ·have hle:=lh (dR hc)
   simp only[h33,hc,if_false,if_true] at h
   have e:aH s p=3:=by unfold aH;simp only[h33,hc,if_false,if_true];simpa using h
   exact⟨by omega,hle,fun _=>e⟩
  ·simp only[h33,hc,if_false] at h
   have e:aH s p=3:=by unfold aH;simp only[h33,hc,if_false];simpa using h
   have ht:bT s p=3:=by simpa using h
   have hlt:p<s.size:=by
    unfold bT at ht
    split at ht
    ·exact gt (by assumption)
    ·omega
   exact⟨by omega,lh hlt,fun _=>e⟩
theorem ia (u:ByteArray)(w:World)(h:0<u.size):
  Calls Tryz.prog 107 #[.string u] w fun e w'=>e=.returned (.bool (aR (bt u 0)))∧w=w':=by
 have hb:=bX u 0
 have HB:=af (bh h)
 rw[HB.out] at hb ⊢
 go_enter Tryz.func107,Tryz.ntmps107
 go_wp2_with (go_at_call 45;refine (gS _ _ hb.1 hb.2).mono ?_;rintro e w' ⟨rfl,rfl⟩)
 go_ret
 exact⟨rfl,rfl⟩
def fE (s:ByteArray)(L:List Nat)(v:Int):Bool:=L.any fun p=>aR (bt s p)&&(bt s (p+1)==v||bt s (p+2)==v)
theorem uu {s:ByteArray}{L:List Nat}{v:Int}{k:Nat}(hk:k<L.length):fE s (L.take (k+1)) v=(fE s (L.take k) v||(aR (bt s L[k])&&(bt s (L[k]+1)==v||bt s (L[k]+2)==v))):=by
 unfold fE
 rw[List.take_succ_eq_append_getElem hk,List.any_append]
 simp
theorem se {s:ByteArray}{L:List Nat}{v:Int}{k:Nat}(h:fE s (L.take k) v=true):fE s L v=true:=by
 unfold fE at h ⊢
 rw[←List.take_append_drop k L,List.any_append,h];rfl
theorem ki {s:ByteArray}{p n k:Nat}(hn:p+n≤s.size)(hk:k<n):bt (s.extract p (p+n)) k=bt s (p+k):=iR hn (by omega)
theorem Ak (s:ByteArray)(L:List Nat)(v:Int)(a:Option Addr)(m c B:Nat)(w:World)(_hv:0≤v∧v≤255)(hL:∀ p∈L,b7 s p=true)(hlen:L.length≤400)
  (h:w.ownsRow B 9 1 (.slice a m c) L.length (dL s L)) :
  Calls Tryz.prog 131 #[.slice a m c,.int .u8 v] w fun e w'=>e=.returned (.bool (fE s L v))∧w=w':=by
 have e1:=ar h
 subst e1
 have HL:=af hL
 clear hL
 obtain⟨q,hq⟩:∃ q,q=fE s L v:=⟨_,rfl⟩
 rw[←hq]
 have HQ:=af hq
 clear hq
 go_enter Tryz.func131,Tryz.ntmps131
 go_wp2_with fail
 go_loop [5] (fun t=>∃ k:Nat,k≤L.length∧t=.int .i64 k∧fE s (L.take k) v=false) (fun t=>L.length - (intOf t).toNat)
 case atStart=>exact⟨0,Nat.zero_le _,rfl,rfl⟩
 case round=>
  obtain⟨k,hk,rfl,hno⟩:=hrel
  have HN:=af hno
  clear hno
  by_cases hlt:k<L.length
  ·obtain⟨g,rfl,_,hgb,hgl,hcell⟩:=aE h (by omega)
   have hok:=HL.out L[k] (List.getElem_mem hlt)
   obtain⟨p3,ps,p4⟩:=sY hok
   have hce:w.cell? ⟨g,k,none⟩=some (.string (s.extract L[k] (L[k]+aH s L[k]))):=hcell k _ (by simp[dL,hlt])
   clear hcell
   obtain⟨u,hu⟩:∃ u,u=s.extract L[k] (L[k]+aH s L[k]):=⟨_,rfl⟩
   rw[←hu] at hce
   have husz:u.size=aH s L[k]:=by rw[hu,dd ps];omega
   have v0:bt u 0=bt s L[k]:=by rw[hu,ki ps (by omega)];rfl
   have v1:bt u 1=bt s (L[k]+1):=by rw[hu,ki ps (by omega)]
   have v2:bt u 2=bt s (L[k]+2):=by rw[hu,ki ps (by omega)]
   have u3:3≤u.size:=by omega
   have u0:0<u.size:=by omega
   have u1:1<u.size:=by omega
   have u2:2<u.size:=by omega
   rw[bh u1] at v1
   rw[bh u2] at v2
   have HT:=af (uu (s:=s) (v:=v) hlt)
   rw[HN.out,Bool.false_or,←v0,←v1,←v2] at HT
   have HPT:=af (fun W=>ia u W u0)
   clear v0 v1 v2 hu husz hok p3 ps p4
   by_cases hc:aR (bt u 0)=true
   ·rw[hc] at HPT HT
    by_cases h1:((u[1]'u1).toNat:Int)=v
    ·have HU:Hid (q=true):=af (by rw[HQ.out];exact se (by rw[HT.out];simp[h1]))
     have q1:(((u[1]'u1).toNat:Int)==v)=true:=by simpa using h1
     clear h1
     go_wp2_with (go_at_call 107;refine (HPT.out _).mono ?_;rintro e w' ⟨rfl,rfl⟩)
     go_ret
     exact⟨c7 HU.out.symm,rfl⟩
    ·have q1:(((u[1]'u1).toNat:Int)==v)=false:=by simpa using h1
     by_cases h2:((u[2]'u2).toNat:Int)=v
     ·have HU:Hid (q=true):=af (by rw[HQ.out];exact se (by rw[HT.out];simp[h2]))
      have q2:(((u[2]'u2).toNat:Int)==v)=true:=by simpa using h2
      clear h1 h2
      go_wp2_with (go_at_call 107;refine (HPT.out _).mono ?_;rintro e w' ⟨rfl,rfl⟩)
      go_ret
      exact⟨c7 HU.out.symm,rfl⟩
     ·have q2:(((u[2]'u2).toNat:Int)==v)=false:=by simpa using h2
      have HT':Hid (fE s (L.take (k+1)) v=false):=af (by rw[HT.out];simp[q1,q2])
      clear h1 h2
      go_wp2_with (go_at_call 107;refine (HPT.out _).mono ?_;rintro e w' ⟨rfl,rfl⟩)
      go_round
      case rel=>exact⟨k+1,by omega,by go_num,HT'.out⟩
      case measure=>simp[intOf];omega
   ·have hc':aR (bt u 0)=false:=by simpa using hc
    rw[hc'] at HPT HT
    have HT':Hid (fE s (L.take (k+1)) v=false):=af (by rw[HT.out];simp)
    go_wp2_with (go_at_call 107;refine (HPT.out _).mono ?_;rintro e w' ⟨rfl,rfl⟩)
    go_round
    case rel=>exact⟨k+1,by omega,by go_num,HT'.out⟩
    case measure=>simp[intOf];omega
  ·have HU:Hid (q=false):=af (by rw[HQ.out];have:=HN.out;rwa [List.take_of_length_le (by omega)] at this)
   go_wp2
   go_ret
   exact⟨c7 HU.out.symm,rfl⟩
def cj (s:ByteArray)(L:List Nat)(c:Int):Bool:=!(ex c)||fE s L c
def cX (s:ByteArray)(L:List Nat)(p n:Nat):Bool:=(List.range n).all fun q=>cj s L (bt s (p+q))
theorem ci (s:ByteArray)(L:List Nat)(p n:Nat):cX s L p (n+1)=(cX s L p n&&cj s L (bt s (p+n))):=by
 unfold cX;rw[List.range_succ,List.all_append];simp
theorem tP {s:ByteArray}{L:List Nat}{p n m:Nat}(h:cX s L p n=false)(hm:n≤m):cX s L p m=false:=by
 induction m with
 |zero=>rw[show n=0 by omega] at h;exact h
 |succ m ih=>
  by_cases e:n=m+1
  ·rw[←e];exact h
  ·rw[ci,ih (by omega)];rfl
theorem sB (s:ByteArray)(L:List Nat)(p n:Nat)(a:Option Addr)(m c B:Nat)(w:World)(hp:p+n≤s.size)(hs:s.size≤400)(hL:∀ p∈L,b7 s p=true)(hlen:L.length≤400)
  (h:w.ownsRow B 9 1 (.slice a m c) L.length (dL s L)) :
  Calls Tryz.prog 108 #[.slice a m c,.string (s.extract p (p+n))] w fun e w'=>e=.returned (.bool (cX s L p n))∧w=w':=by
 have HA:=af (fun v hv=>Ak s L v a m c B w hv hL hlen h)
 clear hL h hlen
 obtain⟨q,hq⟩:∃ q,q=cX s L p n:=⟨_,rfl⟩
 rw[←hq]
 have HQ:=af hq
 clear hq
 obtain⟨u,hu⟩:∃ u,u=s.extract p (p+n):=⟨_,rfl⟩
 rw[←hu]
 have husz:u.size=n:=by rw[hu,dd hp];omega
 have HB:Hid (∀ k (hk:k<u.size),((u[k]'hk).toNat:Int)=bt s (p+k)):=af (by
  intro k hk;rw[←bh hk,hu,ki hp (by omega)])
 have hun:n≤400:=by omega
 clear hu
 subst husz
 go_enter Tryz.func108,Tryz.ntmps108
 go_wp2_with fail
 go_loop [5] (fun t=>∃ k:Nat,k≤u.size∧t=.int .i64 k∧cX s L p k=true) (fun t=>u.size - (intOf t).toNat)
 case atStart=>exact⟨0,Nat.zero_le _,rfl,rfl⟩
 case round=>
  obtain⟨k,hk,rfl,hno⟩:=hrel
  have HN:=af hno
  clear hno
  by_cases hlt:k<u.size
  ·have hb:=bX s (p+k)
   rw[←HB.out k hlt] at hb
   have HT:=af (ci s L p k)
   rw[HN.out,Bool.true_and,←HB.out k hlt,cj] at HT
   have HLT:=af (fun W=>pH ((u[k]'hlt).toNat:Int) W hb.1 hb.2)
   have HAM:=af (HA.out ((u[k]'hlt).toNat:Int) hb)
   by_cases hl:ex ((u[k]'hlt).toNat:Int)=true
   ·rw[hl] at HLT HT
    by_cases ha:fE s L ((u[k]'hlt).toNat:Int)=true
    ·rw[ha] at HAM HT
     clear hl ha
     go_wp2_with (first|(go_at_call 130;refine (HLT.out _).mono ?_;rintro e w' ⟨rfl,rfl⟩)|(go_at_call 131;refine HAM.out.mono ?_;rintro e w' ⟨rfl,rfl⟩))
     go_round
     case rel=>exact⟨k+1,by omega,by go_num,by rw[HT.out];rfl⟩
     case measure=>simp[intOf];omega
    ·have ha':fE s L ((u[k]'hlt).toNat:Int)=false:=by simpa using ha
     rw[ha'] at HAM HT
     have HU:Hid (q=false):=af (by rw[HQ.out];exact tP (n:=k+1) (by rw[HT.out];rfl) (by omega))
     clear hl ha ha'
     go_wp2_with (first|(go_at_call 130;refine (HLT.out _).mono ?_;rintro e w' ⟨rfl,rfl⟩)|(go_at_call 131;refine HAM.out.mono ?_;rintro e w' ⟨rfl,rfl⟩))
     go_ret
     exact⟨c7 HU.out.symm,rfl⟩
   ·have hl':ex ((u[k]'hlt).toNat:Int)=false:=by simpa using hl
    rw[hl'] at HLT HT
    clear hl hl'
    go_wp2_with (first|(go_at_call 130;refine (HLT.out _).mono ?_;rintro e w' ⟨rfl,rfl⟩)|(go_at_call 131;refine HAM.out.mono ?_;rintro e w' ⟨rfl,rfl⟩))
    go_round
    case rel=>exact⟨k+1,by omega,by go_num,by rw[HT.out];rfl⟩
    case measure=>simp[intOf];omega
  ·have HU:Hid (q=true):=af (by rw[HQ.out,←HN.out,show k=u.size by omega])
   go_wp2
   go_ret
   exact⟨c7 HU.out.symm,rfl⟩
def ez (s:ByteArray)(L:List Nat):Nat:=(L.filter fun p=>aR (bt s p)).length
theorem qU (s:ByteArray)(L:List Nat)(k:Nat)(hk:k<L.length):ez s (L.take (k+1))=ez s (L.take k)+if aR (bt s L[k])=true then 1 else 0:=by
 rw[List.take_succ_eq_append_getElem hk]
 unfold ez
 rw[List.filter_append,List.length_append]
 by_cases h:aR (bt s L[k])=true <;> simp[h]
theorem mG (s:ByteArray)(L:List Nat):ez s L≤L.length:=List.length_filter_le _ _
theorem tE (s:ByteArray)(L:List Nat)(x:Int)(a a2:Option Addr)(m c m2 c2 B:Nat)(w:World)(hL:∀ p∈L,b7 s p=true)(hlen:L.length≤400)
  (h:w.ownsRow B 9 1 (.slice a m c) L.length (dL s L)) :
  Calls Tryz.prog 78 #[.agg #[.int .i64 x,.slice a m c,.slice a2 m2 c2]] w fun e w'=>e=.returned (.int .i64 (ez s L:Nat))∧w.grownBy w' none:=by
 have e1:=ar h
 subst e1
 have HL:=af hL
 clear hL
 go_enter Tryz.func78,Tryz.ntmps78
 go_wp2_with fail
 have h0:=h.alloc (.cells #[.int .i64 x,.slice a L.length c,.slice a2 m2 c2] 155)
 go_loop [3,4] (fun n t=>∃ k:Nat,k≤L.length∧t=.int .i64 k∧n=.int .i64 (ez s (L.take k):Nat)) (fun _ t=>L.length - (intOf t).toNat)
 case atStart=>exact⟨0,Nat.zero_le _,rfl,rfl⟩
 case round=>
  obtain⟨k,hk,rfl,rfl⟩:=hrel
  by_cases hlt:k<L.length
  ·obtain⟨g,rfl,_,hgb,hgl,hcell⟩:=aE h (by omega)
   have hok:=HL.out L[k] (List.getElem_mem hlt)
   obtain⟨p3,ps,p4⟩:=sY hok
   have hce:w.cell? ⟨g,k,none⟩=some (.string (s.extract L[k] (L[k]+aH s L[k]))):=hcell k _ (by simp[dL,hlt])
   clear hcell
   obtain⟨u,hu⟩:∃ u,u=s.extract L[k] (L[k]+aH s L[k]):=⟨_,rfl⟩
   rw[←hu] at hce
   have husz:u.size=aH s L[k]:=by rw[hu,dd ps];omega
   have v0:bt u 0=bt s L[k]:=by rw[hu,ki ps (by omega)];rfl
   have u0:0<u.size:=by omega
   have HPT:=af (fun W=>ia u W u0)
   have HS:=af (qU s L k hlt)
   rw[←v0] at HS
   have hpc:=mG s (L.take k)
   have hpl:(L.take k).length≤L.length:=by simp;omega
   clear v0 hu husz hok p3 ps p4
   by_cases hc:aR (bt u 0)=true
   ·rw[hc] at HPT
    rw[if_pos hc] at HS
    go_wp2_with (go_at_call 107;refine (HPT.out _).mono ?_;rintro e w' ⟨rfl,rfl⟩)
    go_round
    case rel=>exact⟨k+1,by omega,by go_num,by rw[HS.out];go_num⟩
    case measure=>simp[intOf];omega
   ·have hc':aR (bt u 0)=false:=by simpa using hc
    rw[hc'] at HPT
    rw[if_neg hc] at HS
    go_wp2_with (go_at_call 107;refine (HPT.out _).mono ?_;rintro e w' ⟨rfl,rfl⟩)
    go_round
    case rel=>exact⟨k+1,by omega,by go_num,by rw[HS.out];go_num⟩
    case measure=>simp[intOf];omega
  ·go_wp2
   go_ret
   have e:L.take k=L:=List.take_of_length_le (by omega)
   rw[e]
   exact⟨rfl,ab (ag _ _) _⟩
end Go.Proofs.YthlhbjnkohinmaaGreat
