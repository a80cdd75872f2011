import Derived.Test.YthlhbjnkohinmaaGreatP06
namespace Go.Proofs.YthlhbjnkohinmaaGreat
set_option maxRecDepth 100000
set_option maxHeartbeats 8000000
def lG (c:Int):Bool:=c==44||c==59||c==62
theorem s6 {c:Int}(h:aR c=true):lG c=false:=by
 simp only[aR,decide_eq_true_eq] at h
 simp only[lG,Bool.or_eq_false_iff,beq_eq_false_iff_ne];omega
theorem pd {c:Int}(h:bd c=true):lG c=false:=by
 simp only[bd,bM,ex,Bool.or_eq_true,decide_eq_true_eq] at h
 simp only[lG,Bool.or_eq_false_iff,beq_eq_false_iff_ne];omega
theorem yr {c:Int}(h:c7 c=true):lG c=false:=by
 simp only[c7,bd,bM,ex,Bool.or_eq_true,decide_eq_true_eq,beq_iff_eq] at h
 simp only[lG,Bool.or_eq_false_iff,beq_eq_false_iff_ne];omega
theorem D5 {c:Int}(h:gJ c=true):lG c=false:=by
 simp only[gJ,Bool.or_eq_true,beq_iff_eq] at h
 simp only[lG,Bool.or_eq_false_iff,beq_eq_false_iff_ne];omega
theorem EH {c:Int}(h:fe c=true):lG c=false:=by
 simp only[fe,Bool.or_eq_true,beq_iff_eq] at h
 simp only[lG,Bool.or_eq_false_iff,beq_eq_false_iff_ne];omega
def iC (s:ByteArray)(i j:Nat):Prop:=∀ q,i≤q→q<j→lG (bt s q)=false
theorem iC.one {s:ByteArray}{i:Nat}(h:lG (bt s i)=false):iC s i (i+1):=fun q h1 h2=>by rw[show q=i by omega];exact h
theorem iC.trans {s:ByteArray}{i j k:Nat}(h:iC s i j)(g:iC s j k):iC s i k:=fun q h1 h2=>by
 by_cases hq:q<j
 ·exact h q h1 hq
 ·exact g q (by omega) h2
theorem iC.snoc {s:ByteArray}{i j:Nat}(h:iC s i j)(g:lG (bt s j)=false):iC s i (j+1):=h.trans (.one g)
theorem vd {s:ByteArray}{i:Nat}(h:bu s i=3):iC s i (i+3):=by
 unfold bu at h
 split at h
 ·split at h
  ·split at h
   ·rename_i h0 h1 h2
    exact ((iC.one (s6 h0)).snoc (yr h1)).snoc (yr h2)
   ·omega
  ·omega
 ·omega
theorem Cc {s:ByteArray}{i:Nat}(h:bS s i=3):iC s i (i+3):=by
 unfold bS at h
 split at h
 ·split at h
  ·split at h
   ·rename_i h0 h1 h2
    exact ((iC.one (pd h0)).snoc (D5 h1)).snoc (pd h2)
   ·omega
  ·omega
 ·omega
theorem lq {s:ByteArray}{i:Nat}(h:b7 s i=true):iC s i (i+aH s i):=by
 unfold b7 at h;unfold aH
 by_cases h33:bt s i=33
 ·simp only[h33,if_true] at h ⊢
  have hp:bu s (i+1)=3:=by simpa using h
  rw[hp]
  exact (iC.one (by rw[h33];decide)).trans (vd hp)
 ·by_cases hc:aR (bt s i)=true
  ·simp only[h33,hc,if_false,if_true] at h ⊢
   have hp:bu s i=3:=by simpa using h
   rw[hp];exact vd hp
  ·simp only[h33,hc,if_false] at h ⊢
   have hp:bS s i=3:=by simpa using h
   rw[hp];exact Cc hp
theorem s8 {s:ByteArray}{i:Nat}(h:bd (bt s i)=true):iC s i (c9 s i):=by
 unfold c9
 split
 ·rename_i ht;exact (iC.one (pd h)).snoc (EH ht)
 ·exact iC.one (pd h)
theorem o8 {s:ByteArray}{i:Nat}(h:cT s i=true):iC s i (i+aS s i):=by
 unfold cT at h;unfold aS
 by_cases h43:bt s i=43
 ·simp only[h43,if_true] at h ⊢
  simp only[fJ,Bool.and_eq_true] at h
  obtain⟨⟨h0,h1⟩,h2⟩:=h
  have hj:=ew s (i+1+1)
  have hj2:=ew s (c9 s (i+1+1))
  have e:i+(1+cQ s (i+1))=c9 s (c9 s (i+1+1)):=by simp[cQ,h0,h1,h2];omega
  rw[e]
  exact (((iC.one (by rw[h43];decide)).snoc (s6 h0)).trans (s8 h1)).trans (s8 h2)
 ·by_cases h45:bt s i=45
  ·simp only[h45,if_true,show ¬(45:Int)=43 by decide,if_false] at h ⊢
   simp only[gq,Bool.and_eq_true] at h
   obtain⟨h0,h1⟩:=h
   have hj:=ew s (i+1+1)
   have e:i+(1+c8 s (i+1))=c9 s (i+1+1):=by simp[c8,h0,h1];omega
   rw[e]
   exact ((iC.one (by rw[h45];decide)).snoc (s6 h0)).trans (s8 h1)
  ·simp only[h43,h45,if_false,beq_iff_eq] at h
   simp only[h,if_true,show ¬(46:Int)=43 by decide,show ¬(46:Int)=45 by decide,if_false]
   exact iC.one (by rw[h];decide)
theorem jR {s:ByteArray}{a b:Int}(ha:lG a=true)(hb:lG b=true):∀ (m n f i:Nat),iC s i (i+m)→d8 s a b (m+n) f i=d8 s a b n f (i+m)
 |0,n,f,i,_=>by simp
 |m+1,n,f,i,h=>by
  have h0:=h i (by omega) (by omega)
  rw[show m+1+n=(m+n)+1 by omega,d8,if_neg (by
   rintro (e|e)
   ·rw[e,ha] at h0;cases h0
   ·rw[e,hb] at h0;cases h0),jR ha hb m n f (i+1) (fun q h1 h2=>h q (by omega) (by omega)),show i+1+m=i+(m+1) by omega]
theorem Er {s:ByteArray}{i:Nat}{L:List Nat}{j:Nat}{ok:Bool}(h:jz s i L j ok):ok=true→d8 s 44 62 (j - i) i i=L.map fun p=>(p,p+aH s p):=by
 refine jz.ind (M:=fun i L j ok=>ok=true→d8 s 44 62 (j - i) i i=L.map fun p=>(p,p+aH s p)) ?_ ?_ ?_ ?_ ?_ h
 ·intro _ _
  intro h;cases h
 ·intro _ _ _
  intro h;cases h
 ·intro i' _ h he
  intro _
  rw[show i'+aH s i'+1 - i'=aH s i'+1 by omega,jR (by decide) (by decide) _ 1 _ _ (lq h),d8,if_pos (.inr he)]
  rfl
 ·intro _ _ _ _ _
  intro h;cases h
 ·intro i' L' j' _ _ h he hn ih
  intro e
  have hle:=tP hn
  rw[show j' - i'=aH s i'+((j' - (i'+aH s i'+1))+1) by omega,jR (by decide) (by decide) _ _ _ _ (lq h),d8,if_pos (.inl he),ih e]
  rfl
theorem D8 {s:ByteArray}{i:Nat}{L:List Nat}{j:Nat}{ok:Bool}(h:jX s i L j ok):ok=true→d8 s 44 59 (j - i) i i=L.map fun p=>(p,p+aS s p):=by
 refine jX.ind (M:=fun i L j ok=>ok=true→d8 s 44 59 (j - i) i i=L.map fun p=>(p,p+aS s p)) ?_ ?_ ?_ ?_ ?_ h
 ·intro _ _
  intro h;cases h
 ·intro _ _ _
  intro h;cases h
 ·intro i' _ h he
  intro _
  rw[show i'+aS s i'+1 - i'=aS s i'+1 by omega,jR (by decide) (by decide) _ 1 _ _ (o8 h),d8,if_pos (.inr he)]
  rfl
 ·intro _ _ _ _ _
  intro h;cases h
 ·intro i' L' j' _ _ h he hn ih
  intro e
  have hle:=yf hn
  rw[show j' - i'=aS s i'+((j' - (i'+aS s i'+1))+1) by omega,jR (by decide) (by decide) _ _ _ _ (o8 h),d8,if_pos (.inl he),ih e]
  rfl
def No (s:ByteArray)(c:Int)(i j:Nat):Prop:=∀ q,i≤q→q<j→bt s q≠c
theorem No.trans {s:ByteArray}{c:Int}{i j k:Nat}(h:No s c i j)(g:No s c j k):No s c i k:=fun q h1 h2=>by
 by_cases hq:q<j
 ·exact h q h1 hq
 ·exact g q (by omega) h2
theorem No.one {s:ByteArray}{c:Int}{i:Nat}(h:bt s i≠c):No s c i (i+1):=fun q h1 h2=>by rw[show q=i by omega];exact h
theorem No.bare {s:ByteArray}{c:Int}(hc:lG c=true){i j:Nat}(h:iC s i j):No s c i j:=fun q h1 h2 e=>by
 have:=h q h1 h2;rw[e,hc] at this;cases this
def cV (s:ByteArray)(L:List Nat):Nat:=L.getLastD 0+aH s (L.getLastD 0)
def bO (s:ByteArray)(L:List Nat):Nat:=L.getLastD 0+aS s (L.getLastD 0)
theorem qA {L:List Nat}(a:Nat)(h:L≠[]):(a::L).getLastD 0=L.getLastD 0:=by
 cases L with
 |nil=>exact absurd rfl h
 |cons b L=>simp[List.getLastD]
theorem mM {s:ByteArray}{i:Nat}{L:List Nat}{j:Nat}{ok:Bool}(h:jz s i L j ok):ok=true→L≠[]∧j=cV s L+1∧bt s (cV s L)=62∧No s 62 i (cV s L)∧No s 59 i (cV s L)∧i≤cV s L:=by
 refine jz.ind (M:=fun i L j ok=>ok=true→L≠[]∧j=cV s L+1∧bt s (cV s L)=62∧No s 62 i (cV s L)∧No s 59 i (cV s L)∧i≤cV s L) ?_ ?_ ?_ ?_ ?_ h
 ·intro _ _
  intro h;cases h
 ·intro _ _ _
  intro h;cases h
 ·intro i' _ h he
  intro _;exact⟨by simp,rfl,he,.bare (by decide) (lq h),.bare (by decide) (lq h),by simp[cV]⟩
 ·intro _ _ _ _ _
  intro h;cases h
 ·intro i' L' j' _ _ h he hn ih
  intro e
  obtain⟨h1,h2,h3,h4,h5,h6⟩:=ih e
  have hd:cV s (i'::L')=cV s L':=by unfold cV;rw[qA i' h1]
  rw[hd]
  exact⟨by simp,h2,h3,((No.bare (by decide) (lq h)).trans (.one (by rw[he];decide))).trans h4,((No.bare (by decide) (lq h)).trans (.one (by rw[he];decide))).trans h5,by omega⟩
theorem mI {s:ByteArray}{i:Nat}{L:List Nat}{j:Nat}{ok:Bool}(h:jX s i L j ok):ok=true→L≠[]∧j=bO s L+1∧bt s (bO s L)=59∧No s 59 i (bO s L)∧i≤bO s L∧bO s L<s.size:=by
 refine jX.ind (M:=fun i L j ok=>ok=true→L≠[]∧j=bO s L+1∧bt s (bO s L)=59∧No s 59 i (bO s L)∧i≤bO s L∧bO s L<s.size) ?_ ?_ ?_ ?_ ?_ h
 ·intro _ _
  intro h;cases h
 ·intro _ _ _
  intro h;cases h
 ·intro i' _ h he
  intro _;exact⟨by simp,rfl,he,.bare (by decide) (o8 h),by simp[bO],de (by show bt s (i'+aS s i')≠0;omega)⟩
 ·intro _ _ _ _ _
  intro h;cases h
 ·intro i' L' j' _ _ h he hn ih
  intro e
  obtain⟨h1,h2,h3,h4,h5,h6⟩:=ih e
  have hd:bO s (i'::L')=bO s L':=by unfold bO;rw[qA i' h1]
  rw[hd]
  exact⟨by simp,h2,h3,((No.bare (by decide) (o8 h)).trans (.one (by rw[he];decide))).trans h4,by omega,h6⟩
theorem yO {s:ByteArray}{a:Int}:∀ (m n f i:Nat),No s a i (i+m)→d8 s a a (m+n) f i=d8 s a a n f (i+m)
 |0,n,f,i,_=>by simp
 |m+1,n,f,i,h=>by
  have h0:=h i (by omega) (by omega)
  rw[show m+1+n=(m+n)+1 by omega,d8,if_neg (by rintro (e|e) <;> exact h0 e),yO m n f (i+1) (fun q h1 h2=>h q (by omega) (by omega)),show i+1+m=i+(m+1) by omega]
structure gg (s:ByteArray)(r:ay):Prop where
 dig:bM (bt s r.1)=true
 colon:bt s (r.1+1)=58
 conds:jz s (r.1+2) r.2.1 (cV s r.2.1+1) true
 acts:jX s (cV s r.2.1+1) r.2.2 (bO s r.2.2+1) true
theorem gg.of {s:ByteArray}{i:Nat}{L K:List Nat}{j:Nat}(h:rf s i L K j true):gg s (i,L,K)∧j=bO s K+1:=by
 obtain⟨j1,hd,h1,hc,ha⟩:=h.yes
 have e1:=(mM hc rfl).2.1
 have e2:=(mI ha rfl).2.1
 subst e1 e2
 exact⟨⟨hd,h1,hc,ha⟩,rfl⟩
theorem C7 {c:Int}(h:bM c=true):c≠59∧c≠62:=by
 simp only[bM,decide_eq_true_eq] at h;omega
theorem gg.no59 {s:ByteArray}{r:ay}(h:gg s r):No s 59 r.1 (bO s r.2.2):=by
 have hc:=mM h.conds rfl
 have ha:=mI h.acts rfl
 exact ((((No.one (C7 h.dig).1).trans (.one (by rw[h.colon];decide))).trans hc.2.2.2.2.1).trans (.one (by rw[hc.2.2.1];decide))).trans ha.2.2.2.1
theorem gg.no62 {s:ByteArray}{r:ay}(h:gg s r):No s 62 r.1 (cV s r.2.1):=by
 have hc:=mM h.conds rfl
 exact ((No.one (C7 h.dig).2).trans (.one (by rw[h.colon];decide))).trans hc.2.2.2.1
theorem sJ {s:ByteArray}{i:Nat}{R:List ay}{j:Nat}{ok:Bool}(h:kW s i R j ok):ok=true→d8 s 59 59 (j - i) i i=(R.map fun r=>(r.1,bO s r.2.2))∧∀ r∈R,gg s r:=by
 refine kW.ind (M:=fun i R j ok=>ok=true→d8 s 59 59 (j - i) i i=(R.map fun r=>(r.1,bO s r.2.2))∧∀ r∈R,gg s r) ?_ ?_ ?_ h
 ·intro _ _
  intro _;simp[d8]
 ·intro _ _ _ _ _ _
  intro h;cases h
 ·intro i' L K j1 R' j' _ hi h hn ih
  intro e
  obtain⟨hk,hj⟩:=gg.of h
  obtain⟨e1,e2⟩:=ih e
  have hle:=oZ hn
  have ha:=mI hk.acts rfl
  have hc:=mM hk.conds rfl
  have h1:i'+2≤cV s L:=hc.2.2.2.2.2
  have h2:cV s L+1≤bO s K:=ha.2.2.2.2.1
  have h3:bt s (bO s K)=59:=ha.2.2.1
  have hno:No s 59 i' (bO s K):=hk.no59
  subst hj
  refine⟨?_,?_⟩
  ·rw[show j' - i'=(bO s K - i')+((j' - (bO s K+1))+1) by omega,yO _ _ _ _ (by rw[show i'+(bO s K - i')=bO s K by omega];exact hno),show i'+(bO s K - i')=bO s K by omega,d8,if_pos (.inl h3),e1]
   rfl
  ·intro r hr
   rcases List.mem_cons.mp hr with rfl|hr
   ·exact hk
   ·exact e2 r hr
open Go.RowKit
theorem da {s:ByteArray}{a b:Nat}(_hb:b≤s.size):(s.extract a b).size=b - a:=by
 rw[ByteArray.size_extract];omega
theorem iY {s:ByteArray}{a b k:Nat}(hb:b≤s.size)(hk:a+k<b):bt (s.extract a b) k=bt s (a+k):=by
 have h1:k<(s.extract a b).size:=by rw[da hb];omega
 rw[bh h1,bh (show a+k<s.size by omega)]
 rw[ByteArray.getElem_extract]
theorem pG {s:ByteArray}{a b c d:Nat}(_hb:b≤s.size)(hd:a+d≤b):(s.extract a b).extract c d=s.extract (a+c) (a+d):=by
 rw[ByteArray.extract_extract]
 congr 1
 omega
theorem EO {s:ByteArray}{x y:Nat}(h:bt s y=59)(hx:x≤y)(hy:y<s.size):s.extract x y++⟨#[59]⟩=s.extract x (y+1):=by
 have hb:s[y]=59:=by
  rw[bh hy] at h
  exact UInt8.toNat_inj.mp (by show s[y].toNat=59;omega)
 apply ByteArray.ext
 apply Array.toList_inj.mp
 rw[ByteArray.data_append,Array.toList_append,Lib.extract_data,Lib.extract_data]
 rw[show y+1 - x=(y - x)+1 by omega,List.take_succ_eq_append_getElem (by simp;have:s.data.size=s.size:=rfl;omega)]
 congr 1
 simp only[List.getElem_drop,Array.getElem_toList,show x+(y - x)=y by omega]
 show [59]=[s[y]]
 rw[hb]
theorem l5 {s:ByteArray}{a b:Int}:∀ (n f i:Nat),f≤i→∀ p∈d8 s a b n f i,f≤p.1∧p.1≤p.2∧p.2<i+n
 |0,_,_,_,p,hp=>by simp[d8] at hp
 |n+1,f,i,hf,p,hp=>by
  rw[d8] at hp
  split at hp
  ·rcases List.mem_cons.mp hp with rfl|hp
   ·exact⟨Nat.le_refl _,hf,by simp⟩
   ·have:=l5 n (i+1) (i+1) (Nat.le_refl _) p hp
    omega
  ·have:=l5 n f (i+1) (by omega) p hp
   omega
theorem ke {s:ByteArray}{a b:Int}{c d:Nat}(hd:d≤s.size):∀ (n f i:Nat),c+i+n≤d→d8 (s.extract c d) a b n f i=(d8 s a b n (c+f) (c+i)).map fun p=>(p.1 - c,p.2 - c)
 |0,_,_,_=>rfl
 |n+1,f,i,h=>by
  rw[d8,d8,iY hd (by omega)]
  split
  ·rw[ke hd n (i+1) (i+1) (by omega)]
   simp only[List.map_cons]
   rw[show c+f - c=f by omega,show c+i - c=i by omega,show c+(i+1)=c+i+1 by omega]
  ·rw[ke hd n f (i+1) (by omega),show c+(i+1)=c+i+1 by omega]
theorem qS {s:ByteArray}{a b:Int}{c d:Nat}(hd:d≤s.size)(hc:c≤d):lI (s.extract c d) (d8 (s.extract c d) a b (s.extract c d).size 0 0)=lI s (d8 s a b (d - c) c c):=by
 rw[da hd,ke hd _ _ _ (by omega)]
 unfold lI
 rw[List.map_map]
 apply List.map_congr_left
 intro p hp
 have:=l5 _ _ _ (Nat.le_refl _) p hp
 simp only[Function.comp]
 rw[pG hd (by omega),show c+(p.1 - c)=p.1 by omega,show c+(p.2 - c)=p.2 by omega]
theorem ss {s:ByteArray}{a b:Int}{c d:Nat}(hd:d≤s.size)(hc:c≤d):(d8 (s.extract c d) a b (s.extract c d).size 0 0).length=(d8 s a b (d - c) c c).length:=by
 rw[da hd,ke hd _ _ _ (by omega),List.length_map]
 simp
def dJ (s:ByteArray)(L:List Nat):List Value:=L.map fun p=>.string (s.extract p (p+aH s p))
def gH (s:ByteArray)(L:List Nat):List Value:=L.map fun p=>.string (s.extract p (p+aS s p))
theorem EY (s:ByteArray)(L:List Nat):lI s (L.map fun p=>(p,p+aH s p))=dJ s L:=by unfold lI dJ;rw[List.map_map];rfl
theorem Fc (s:ByteArray)(L:List Nat):lI s (L.map fun p=>(p,p+aS s p))=gH s L:=by unfold lI gH;rw[List.map_map];rfl
def gh (w:World)(B:Nat)(s:ByteArray):List ay→List Value→Prop
 |[],xs=>xs=[]
 |r::R,xs=>∃ a1 m1 c1 a2 m2 c2 ys,xs=.int .i64 (bt s r.1 - 48)::.slice a1 m1 c1::.slice a2 m2 c2::ys∧
   w.ownsRow B 9 1 (.slice a1 m1 c1) r.2.1.length (dJ s r.2.1)∧w.ownsRow B 9 1 (.slice a2 m2 c2) r.2.2.length (gH s r.2.2)∧gh w B s R ys
theorem oH {w:World}{B:Nat}{s:ByteArray}{i:Nat}{L K:List Nat}{a1:Option Addr}{m1 c1:Nat}{a2:Option Addr}{m2 c2:Nat}
  (h1:w.ownsRow B 9 1 (.slice a1 m1 c1) L.length (dJ s L)) (h2:w.ownsRow B 9 1 (.slice a2 m2 c2) K.length (gH s K)) :
  ∀ (R:List ay) (xs:List Value),gh w B s R xs→gh w B s (R++[(i,L,K)]) (xs++[.int .i64 (bt s i - 48),.slice a1 m1 c1,.slice a2 m2 c2])
 |[],xs,h=>by
  have h:xs=[]:=h
  subst h
  exact⟨a1,m1,c1,a2,m2,c2,[],rfl,h1,h2,rfl⟩
 |r::R,xs,h=>by
  obtain⟨b1,n1,d1,b2,n2,d2,ys,rfl,k1,k2,k3⟩:=h
  exact⟨b1,n1,d1,b2,n2,d2,ys++_,rfl,k1,k2,oH h1 h2 R ys k3⟩
theorem g8 {w w':World}{B:Nat}{s:ByteArray}{row:Option Nat}(hg:w.grownBy w' row)
  (hrow:∀ g,row=some g→∃ cs t,w.heap[g]?=some (.cells cs t (0,0))∧9≠t):∀ (R:List ay) (xs:List Value),gh w B s R xs→gh w' B s R xs
 |[],_,h=>h
 |r::R,xs,h=>by
  obtain⟨b1,n1,d1,b2,n2,d2,ys,rfl,k1,k2,k3⟩:=h
  exact⟨b1,n1,d1,b2,n2,d2,ys,rfl,aq k1 hg hrow,aq k2 hg hrow,g8 hg hrow R ys k3⟩
theorem iL {w:World}{B:Nat}{s:ByteArray}:∀ (R:List ay) (xs:List Value),gh w B s R xs→∀ (k:Nat) (hk:k<R.length),∃ a1 m1 c1 a2 m2 c2,xs[k*3]?=some (.int .i64 (bt s R[k].1 - 48))∧xs[k*3+1]?=some (.slice a1 m1 c1)∧xs[k*3+2]?=some (.slice a2 m2 c2)∧
  w.ownsRow B 9 1 (.slice a1 m1 c1) R[k].2.1.length (dJ s R[k].2.1)∧w.ownsRow B 9 1 (.slice a2 m2 c2) R[k].2.2.length (gH s R[k].2.2)
 |r::R,xs,h,0,_=>by
  obtain⟨b1,n1,d1,b2,n2,d2,ys,rfl,k1,k2,k3⟩:=h
  exact⟨b1,n1,d1,b2,n2,d2,rfl,rfl,rfl,k1,k2⟩
 |r::R,xs,h,k+1,hk=>by
  obtain⟨b1,n1,d1,b2,n2,d2,ys,rfl,k1,k2,k3⟩:=h
  obtain⟨a1,m1,c1,a2,m2,c2,e1,e2,e3,e4,e5⟩:=iL R ys k3 k (by simpa using hk)
  have f1:(k+1)*3=k*3+1+1+1:=by omega
  rw[f1]
  exact⟨a1,m1,c1,a2,m2,c2,by simpa using e1,by simpa using e2,by simpa using e3,by simpa using e4,by simpa using e5⟩
theorem su {w:World}{base:Nat}{e t:TypeId}{size:Nat}{v:Value}{n:Nat}{xs:List Value}(h:w.ownsRow base e size v n xs)(ht:t≠e):∀ g,v.ownBlock=some g→∃ cs t',w.heap[g]?=some (.cells cs t' (0,0))∧t≠t':=by
 intro g hg
 obtain⟨cs,hcs⟩:=fw h g hg
 exact⟨cs,_,hcs,ht⟩
def js (w:World)(B:Nat)(s:ByteArray)(v:Value)(R:List ay):Prop:=∃ xs,w.ownsRow B 155 3 v R.length xs∧gh w B s R xs
theorem Tryz.info155:(Tryz.prog.info? 155).map (fun i=>(i.zero,i.size,i.bytes))=some (some (.agg #[.int .i64 0,.slice none 0 0,.slice none 0 0]),3,56):=by kernel_rfl
theorem AS (s:ByteArray)(R:List ay)(w:World)(hs:s.size≤400)(hR:kW s 0 R s.size true):
  Calls Tryz.prog 77 #[.string s] w fun e w'=>∃ v,e=.returned v∧js w' w.heap.size s v R∧w.grownBy w' none:=by
 obtain⟨hcut,hall⟩:=sJ hR rfl
 have hlen:=oZ hR
 rw[Nat.sub_zero] at hcut
 have HALL:=af hall
 obtain⟨i0,hi0,hz0,hz1,hz2⟩:=info_parts Tryz.info155
 have HC:=af (s7 s 59 59 w (by omega) (by omega) (by omega))
 rw[hcut] at HC
 clear hcut hall hR
 go_enter Tryz.func77,Tryz.ntmps77
 go_wp2_with fail
 go_at_call 106
 refine HC.out.mono ?_
 rintro e w0 ⟨v0,rfl,hown0,hg0⟩
 rw[List.length_map] at hown0
 obtain⟨a0,m0,k0,rfl⟩:=an hown0
 have e0:=au hown0
 subst e0
 clear HC
 go_wp2_with fail
 go_loopw [3,5] (fun v t wr=>∃ (k:Nat) (xs:List Value),k≤R.length∧t=.int .i64 k∧wr.ownsRow w.heap.size 155 3 v (R.take k).length xs∧gh wr w.heap.size s (R.take k) xs∧wr.ownsRow w.heap.size 9 1 (.slice a0 R.length k0) R.length (lI s (R.map fun r=>(r.1,bO s r.2.2)))∧w.grownBy wr none) (fun _ t _=>R.length - (intOf t).toNat)
 case atStart=>exact⟨0,[],Nat.zero_le _,rfl,World.ownsRow_nil _ _ _ _,rfl,hown0,hg0⟩
 case round=>
  clear hown0 hg0
  obtain⟨k,xs,hk,rfl,hown,hpar,hown0,hg⟩:=hrel
  have HP:=af hpar
  clear hpar
  by_cases hlt:k<R.length
  ·have hok:=HALL.out R[k] (List.getElem_mem hlt)
   obtain⟨g,rfl,_,hgb,hgl,hcell⟩:=aC hown0 (by omega)
   have hce:wr.cell? ⟨g,k,none⟩=some (.string (s.extract R[k].1 (bO s R[k].2.2))):=hcell k _ (by simp[lI,hlt])
   clear hcell
   obtain⟨T,hT⟩:∃ T,T=R[k]:=⟨_,rfl⟩
   rw[←hT] at hce hok
   have HT:=af hT
   clear hT
   obtain⟨i,L,K⟩:=T
   have hcE:=mM hok.conds rfl
   have haE:=mI hok.acts rfl
   have b1:i+2≤cV s L:=hcE.2.2.2.2.2
   have b2:cV s L+1≤bO s K:=haE.2.2.2.2.1
   have b3:bO s K<s.size:=haE.2.2.2.2.2
   have HOK:=af hok
   have HCE:=af hcE
   have HAE:=af haE
   clear hok hcE haE
   change wr.cell? ⟨g,k,none⟩=some (.string (s.extract i (bO s K))) at hce
   obtain⟨u,hu⟩:∃ u,u=s.extract i (bO s K):=⟨_,rfl⟩
   rw[←hu] at hce
   obtain⟨N,hN⟩:∃ N,N=cV s L - i:=⟨_,rfl⟩
   have husz:u.size=bO s K - i:=by rw[hu,da (by omega)]
   have hub:∀ n (h:n<u.size),(u[n].toNat:Int)=bt s (i+n):=by
    intro n h
    rw[←bh h,hu,iY (by omega) (by omega)]
   have u1:N+1≤u.size:=by omega
   have u2:u.size≤400:=by omega
   have u3:2≤N:=by omega
   have u0:0<u.size:=by omega
   have hx1:u.extract 2 (N+1)=s.extract (i+2) (cV s L+1):=by rw[hu,pG (by omega) (by omega),show i+(N+1)=cV s L+1 by omega]
   have hx2:u.extract (N+1) u.size++⟨#[59]⟩=s.extract (cV s L+1) (bO s K+1):=by
    rw[husz,hu,pG (by omega) (by omega),show i+(N+1)=cV s L+1 by omega,show i+(bO s K - i)=bO s K by omega,EO HAE.out.2.2.1 (by omega) (by omega)]
   have HC1:Hid (∀ W:World,Calls Tryz.prog 106 #[.string (u.extract 2 (N+1)),.int .u8 44,.int .u8 62] W fun e w'=>∃ v,e=.returned v∧w'.ownsRow W.heap.size 9 1 v L.length (dJ s L)∧W.grownBy w' none):=af (by
    intro W
    have:=s7 (u.extract 2 (N+1)) 44 62 W (by rw[hx1,da (by omega)];omega) (by omega) (by omega)
    rw[hx1,qS (by omega) (by omega),ss (by omega) (by omega),Er HOK.out.conds rfl,EY,List.length_map] at this
    rw[hx1]
    exact this)
   have HC2:Hid (∀ W:World,Calls Tryz.prog 106 #[.string (u.extract (N+1) u.size++⟨#[59]⟩),.int .u8 44,.int .u8 59] W fun e w'=>∃ v,e=.returned v∧w'.ownsRow W.heap.size 9 1 v K.length (gH s K)∧W.grownBy w' none):=af (by
    intro W
    have:=s7 (u.extract (N+1) u.size++⟨#[59]⟩) 44 59 W (by rw[hx2,da (by omega)];omega) (by omega) (by omega)
    rw[hx2,qS (by omega) (by omega),ss (by omega) (by omega),D8 HOK.out.acts rfl,Fc,List.length_map] at this
    rw[hx2]
    exact this)
   have hd0:48≤((u[0]'u0).toNat:Int)∧((u[0]'u0).toNat:Int)≤57:=by
    rw[hub 0 u0]
    simpa [bM] using HOK.out.dig
   have HW:Hid (((u[0]'u0).toNat:Int)=bt s i):=af (hub 0 u0)
   have HNO:Hid (∀ n (h:n<N) (hv:n<u.size),(((u[n]'hv).toNat:Int) != 62)=true):=af (by
    intro n h hv
    have:=HOK.out.no62 (i+n) (by omega) (by show i+n<cV s L;omega)
    rw[hub n hv]
    simpa using this)
   have HYES:Hid (((u[N]'u1).toNat:Int)=62):=af (by rw[hub N u1,show i+N=cV s L by omega];exact HCE.out.2.2.1)
   have hsz:=hg.size
   have HU2:Hid ((u.extract (N+1) u.size).size≤400):=af (by rw[da (Nat.le_refl _)];omega)
   clear hx1 hx2 hub husz hu hN
   go_wp2_with fail
   go_loop [6] (fun t=>∃ n:Nat,n≤N∧t=.int .i64 n) (fun t=>N - (intOf t).toNat)
   case atStart=>exact⟨0,Nat.zero_le _,rfl⟩
   case round=>
    obtain⟨n,hn,rfl⟩:=hrel
    by_cases hnl:n<N
    ·have hn1:n<u.size:=by omega
     have hq:=HNO.out n hnl hn1
     go_wp2
     go_round
     case rel=>exact⟨n+1,by omega,by go_num⟩
     case measure=>simp[intOf];omega
    ·have hnN:n=N:=by omega
     subst hnN
     have hq:(((u[n]'u1).toNat:Int) != 62)=false:=by simp[HYES.out]
     clear hnl
     go_wp2_with fail
     go_at_call 106
     refine (HC1.out _).mono ?_
     rintro e w1 ⟨v1,rfl,ho1,hg1⟩
     obtain⟨a1,m1,k1,rfl⟩:=an ho1
     have hce1:=hg1.cell hce (by simp)
     have hU2:=HU2.out
     have hU3:(⟨#[59]⟩:ByteArray).size=1:=rfl
     go_wp2_with fail
     go_at_call 106
     refine (HC2.out _).mono ?_
     rintro e w2 ⟨v2,rfl,ho2,hg2⟩
     obtain⟨a2,m2,k2,rfl⟩:=an ho2
     have hce2:=hg2.cell hce1 (by simp)
     have hg12:=ae hg1 hg2
     have hsz1:=hg1.size
     have hsz2:=hg2.size
     have hown2:=aq hown hg12 (fun g hg=>by cases hg)
     clear hU2 hU3
     go_wp2_with (first|(at_builtin;refine wpList_append_own _ rfl (.tmp 43) (.tmp 54) 35 rfl (w.heap.size) 155 i0 (.agg #[.int .i64 0,.slice none 0 0,.slice none 0 0]) 3 56 Tryz.underlying35 hi0 hz0 hz1 hz2 rfl (by decide) _ _ _ rfl (hown2.alloc _) _ 1 1 [.int .i64 (((u[0]'u0).toNat:Int) - 48),.slice a1 m1 k1,.slice a2 m2 k2] rfl rfl ?c1 ?c2 ?c3 ?c4 ?c5 ?_))
     case c1=>intro j u hj;exact bj hj
     case c2=>intro u hu;simp at hu;rcases hu with h|h|h <;> subst h <;> rfl
     case c3=>have:(R.take k).length≤R.length:=by simp;omega
              unfold maxLen;omega
     case c4=>have:(R.take k).length≤R.length:=by simp;omega
              omega
     case c5=>simp;omega
     ·intro v' w3 hown3 hg3 _
      have ht:R.take (k+1)=R.take k++[(i,L,K)]:=by rw[List.take_succ_eq_append_getElem hlt,HT.out]
      have o1:=bN (aq ho1 hg2 (fun g hg=>by cases hg)) hsz
      have o2:=bN (base':=w.heap.size) ho2 (by omega)
      have HP2:=oH (i:=i) o1 o2 (R.take k) xs (g8 hg12 (fun g hg=>by cases hg) _ _ HP.out)
      rw[←ht,←HW.out] at HP2
      have HP3:Hid (gh w3 w.heap.size s (R.take (k+1)) _):=af (g8 hg3 (su (hown2.alloc _) (by decide)) _ _ (g8 (World.grownBy_alloc w2 _ none) (fun g hg=>by cases hg) _ _ HP2))
      have hown0':=aq ((aq hown0 hg12 (fun g hg=>by cases hg)).alloc _) hg3 (su (hown2.alloc _) (by decide))
      have hg3':w.grownBy w3 none:=aL (ab (ae hg hg12) _) hg3 (fun g hg=>(hown.lt g hg).1)
      have hown3':w3.ownsRow w.heap.size 155 3 v' (R.take (k+1)).length (xs++[.int .i64 (((u[0]'u0).toNat:Int) - 48),.slice a1 m1 k1,.slice a2 m2 k2]):=by
       have hl:(R.take (k+1)).length=k+1:=by simp;omega
       rw[hl];simpa [Nat.min_eq_left hk] using hown3
      clear hown3 hg3 hown2 hown hg2 hg1 hg12 ho1 ho2 hce hce1 hce2 hown0 hg o1 o2 HP2 ht
      go_wp2
      go_roundw
      case rel=>exact⟨k+1,_,by omega,by go_num,hown3',HP3.out,hown0',hg3'⟩
      case measure=>simp[intOf];omega
  ·go_wp2
   go_ret
   have e:R.take k=R:=List.take_of_length_le (by omega)
   rw[e] at hown HP
   exact⟨_,rfl,⟨xs,hown,HP.out⟩,hg⟩
theorem tB {s:ByteArray}{p:Nat}(h:b7 s p=true):3≤aH s p∧p+aH s p≤s.size∧(aR (bt s p)=true→aH s p=3):=by
 have hg:=oW h
 unfold b7 at h
 by_cases h33:bt s p=33
 ·have hlt:p<s.size:=de (by omega)
  have hle:=li hlt
  simp only[h33,if_true] at h
  have e:aH s p=4:=by unfold aH;simp only[h33,if_true];have:bu s (p+1)=3:=by simpa using h
                      omega
  exact⟨by omega,hle,fun hc=>by rw[h33] at hc;exact absurd hc (by decide)⟩
 ·by_cases hc:aR (bt s p)=true
  ·have hle:=li (dO hc)
   simp only[h33,hc,if_false,if_true] at h
   have e:aH s p=3:=by unfold aH;simp only[h33,hc,if_false,if_true];simpa using h
   exact⟨by omega,hle,fun _=>e⟩
  ·simp only[h33,hc,if_false] at h
   have e:aH s p=3:=by unfold aH;simp only[h33,hc,if_false];simpa using h
   have ht:bS s p=3:=by simpa using h
   have hlt:p<s.size:=by
    unfold bS at ht
    split at ht
    ·exact gj (by assumption)
    ·omega
   exact⟨by omega,li hlt,fun _=>e⟩
theorem id (u:ByteArray)(w:World)(h:0<u.size):
  Calls Tryz.prog 107 #[.string u] w fun e w'=>e=.returned (.bool (aR (bt u 0)))∧w=w':=by
 have hb:=bU u 0
 have HB:=af (bh h)
 rw[HB.out] at hb ⊢
 go_enter Tryz.func107,Tryz.ntmps107
 go_wp2_with (go_at_call 45;refine (gP _ _ hb.1 hb.2).mono ?_;rintro e w' ⟨rfl,rfl⟩)
 go_ret
 exact⟨rfl,rfl⟩
def fC (s:ByteArray)(L:List Nat)(v:Int):Bool:=L.any fun p=>aR (bt s p)&&(bt s (p+1)==v||bt s (p+2)==v)
theorem wj {s:ByteArray}{L:List Nat}{v:Int}{k:Nat}(hk:k<L.length):fC s (L.take (k+1)) v=(fC s (L.take k) v||(aR (bt s L[k])&&(bt s (L[k]+1)==v||bt s (L[k]+2)==v))):=by
 unfold fC
 rw[List.take_succ_eq_append_getElem hk,List.any_append]
 simp
theorem rD {s:ByteArray}{L:List Nat}{v:Int}{k:Nat}(h:fC s (L.take k) v=true):fC s L v=true:=by
 unfold fC at h ⊢
 rw[←List.take_append_drop k L,List.any_append,h];rfl
theorem ka {s:ByteArray}{p n k:Nat}(hn:p+n≤s.size)(hk:k<n):bt (s.extract p (p+n)) k=bt s (p+k):=iY hn (by omega)
theorem Bk (s:ByteArray)(L:List Nat)(v:Int)(a:Option Addr)(m c B:Nat)(w:World)(_hv:0≤v∧v≤255)(hL:∀ p∈L,b7 s p=true)(hlen:L.length≤400)
  (h:w.ownsRow B 9 1 (.slice a m c) L.length (dJ s L)) :
  Calls Tryz.prog 131 #[.slice a m c,.int .u8 v] w fun e w'=>e=.returned (.bool (fC s L v))∧w=w':=by
 have e1:=au h
 subst e1
 have HL:=af hL
 clear hL
 obtain⟨q,hq⟩:∃ q,q=fC s L v:=⟨_,rfl⟩
 rw[←hq]
 have HQ:=af hq
 clear hq
 go_enter Tryz.func131,Tryz.ntmps131
 go_wp2_with fail
 go_loop [5] (fun t=>∃ k:Nat,k≤L.length∧t=.int .i64 k∧fC s (L.take k) v=false) (fun t=>L.length - (intOf t).toNat)
 case atStart=>exact⟨0,Nat.zero_le _,rfl,rfl⟩
 case round=>
  obtain⟨k,hk,rfl,hno⟩:=hrel
  have HN:=af hno
  clear hno
  by_cases hlt:k<L.length
  ·obtain⟨g,rfl,_,hgb,hgl,hcell⟩:=aC h (by omega)
   have hok:=HL.out L[k] (List.getElem_mem hlt)
   obtain⟨p3,ps,p4⟩:=tB hok
   have hce:w.cell? ⟨g,k,none⟩=some (.string (s.extract L[k] (L[k]+aH s L[k]))):=hcell k _ (by simp[dJ,hlt])
   clear hcell
   obtain⟨u,hu⟩:∃ u,u=s.extract L[k] (L[k]+aH s L[k]):=⟨_,rfl⟩
   rw[←hu] at hce
   have husz:u.size=aH s L[k]:=by rw[hu,da ps];omega
   have v0:bt u 0=bt s L[k]:=by rw[hu,ka ps (by omega)];rfl
   have v1:bt u 1=bt s (L[k]+1):=by rw[hu,ka ps (by omega)]
   have v2:bt u 2=bt s (L[k]+2):=by rw[hu,ka ps (by omega)]
   have u3:3≤u.size:=by omega
   have u0:0<u.size:=by omega
   have u1:1<u.size:=by omega
   have u2:2<u.size:=by omega
   rw[bh u1] at v1
   rw[bh u2] at v2
   have HT:=af (wj (s:=s) (v:=v) hlt)
   rw[HN.out,Bool.false_or,←v0,←v1,←v2] at HT
   have HPT:=af (fun W=>id u W u0)
   clear v0 v1 v2 hu husz hok p3 ps p4
   by_cases hc:aR (bt u 0)=true
   ·rw[hc] at HPT HT
    by_cases h1:((u[1]'u1).toNat:Int)=v
    ·have HU:Hid (q=true):=af (by rw[HQ.out];exact rD (by rw[HT.out];simp[h1]))
     have q1:(((u[1]'u1).toNat:Int)==v)=true:=by simpa using h1
     clear h1
     go_wp2_with (go_at_call 107;refine (HPT.out _).mono ?_;rintro e w' ⟨rfl,rfl⟩)
     go_ret
     exact⟨cZ HU.out.symm,rfl⟩
    ·have q1:(((u[1]'u1).toNat:Int)==v)=false:=by simpa using h1
     by_cases h2:((u[2]'u2).toNat:Int)=v
     ·have HU:Hid (q=true):=af (by rw[HQ.out];exact rD (by rw[HT.out];simp[h2]))
      have q2:(((u[2]'u2).toNat:Int)==v)=true:=by simpa using h2
      clear h1 h2
      go_wp2_with (go_at_call 107;refine (HPT.out _).mono ?_;rintro e w' ⟨rfl,rfl⟩)
      go_ret
      exact⟨cZ HU.out.symm,rfl⟩
     ·have q2:(((u[2]'u2).toNat:Int)==v)=false:=by simpa using h2
      have HT':Hid (fC s (L.take (k+1)) v=false):=af (by rw[HT.out];simp[q1,q2])
      clear h1 h2
      go_wp2_with (go_at_call 107;refine (HPT.out _).mono ?_;rintro e w' ⟨rfl,rfl⟩)
      go_round
      case rel=>exact⟨k+1,by omega,by go_num,HT'.out⟩
      case measure=>simp[intOf];omega
   ·have hc':aR (bt u 0)=false:=by simpa using hc
    rw[hc'] at HPT HT
    have HT':Hid (fC s (L.take (k+1)) v=false):=af (by rw[HT.out];simp)
    go_wp2_with (go_at_call 107;refine (HPT.out _).mono ?_;rintro e w' ⟨rfl,rfl⟩)
    go_round
    case rel=>exact⟨k+1,by omega,by go_num,HT'.out⟩
    case measure=>simp[intOf];omega
  ·have HU:Hid (q=false):=af (by rw[HQ.out];have:=HN.out;rwa [List.take_of_length_le (by omega)] at this)
   go_wp2
   go_ret
   exact⟨cZ HU.out.symm,rfl⟩
def cj (s:ByteArray)(L:List Nat)(c:Int):Bool:=!(ex c)||fC s L c
def cW (s:ByteArray)(L:List Nat)(p n:Nat):Bool:=(List.range n).all fun q=>cj s L (bt s (p+q))
theorem cm (s:ByteArray)(L:List Nat)(p n:Nat):cW s L p (n+1)=(cW s L p n&&cj s L (bt s (p+n))):=by
 unfold cW;rw[List.range_succ,List.all_append];simp
theorem tA {s:ByteArray}{L:List Nat}{p n m:Nat}(h:cW s L p n=false)(hm:n≤m):cW s L p m=false:=by
 induction m with
 |zero=>rw[show n=0 by omega] at h;exact h
 |succ m ih=>
  by_cases e:n=m+1
  ·rw[←e];exact h
  ·rw[cm,ih (by omega)];rfl
theorem sw (s:ByteArray)(L:List Nat)(p n:Nat)(a:Option Addr)(m c B:Nat)(w:World)(hp:p+n≤s.size)(hs:s.size≤400)(hL:∀ p∈L,b7 s p=true)(hlen:L.length≤400)
  (h:w.ownsRow B 9 1 (.slice a m c) L.length (dJ s L)) :
  Calls Tryz.prog 108 #[.slice a m c,.string (s.extract p (p+n))] w fun e w'=>e=.returned (.bool (cW s L p n))∧w=w':=by
 have HA:=af (fun v hv=>Bk s L v a m c B w hv hL hlen h)
 clear hL h hlen
 obtain⟨q,hq⟩:∃ q,q=cW s L p n:=⟨_,rfl⟩
 rw[←hq]
 have HQ:=af hq
 clear hq
 obtain⟨u,hu⟩:∃ u,u=s.extract p (p+n):=⟨_,rfl⟩
 rw[←hu]
 have husz:u.size=n:=by rw[hu,da hp];omega
 have HB:Hid (∀ k (hk:k<u.size),((u[k]'hk).toNat:Int)=bt s (p+k)):=af (by
  intro k hk;rw[←bh hk,hu,ka hp (by omega)])
 have hun:n≤400:=by omega
 clear hu
 subst husz
 go_enter Tryz.func108,Tryz.ntmps108
 go_wp2_with fail
 go_loop [5] (fun t=>∃ k:Nat,k≤u.size∧t=.int .i64 k∧cW s L p k=true) (fun t=>u.size - (intOf t).toNat)
 case atStart=>exact⟨0,Nat.zero_le _,rfl,rfl⟩
 case round=>
  obtain⟨k,hk,rfl,hno⟩:=hrel
  have HN:=af hno
  clear hno
  by_cases hlt:k<u.size
  ·have hb:=bU s (p+k)
   rw[←HB.out k hlt] at hb
   have HT:=af (cm s L p k)
   rw[HN.out,Bool.true_and,←HB.out k hlt,cj] at HT
   have HLT:=af (fun W=>pY ((u[k]'hlt).toNat:Int) W hb.1 hb.2)
   have HAM:=af (HA.out ((u[k]'hlt).toNat:Int) hb)
   by_cases hl:ex ((u[k]'hlt).toNat:Int)=true
   ·rw[hl] at HLT HT
    by_cases ha:fC s L ((u[k]'hlt).toNat:Int)=true
    ·rw[ha] at HAM HT
     clear hl ha
     go_wp2_with (first|(go_at_call 130;refine (HLT.out _).mono ?_;rintro e w' ⟨rfl,rfl⟩)|(go_at_call 131;refine HAM.out.mono ?_;rintro e w' ⟨rfl,rfl⟩))
     go_round
     case rel=>exact⟨k+1,by omega,by go_num,by rw[HT.out];rfl⟩
     case measure=>simp[intOf];omega
    ·have ha':fC s L ((u[k]'hlt).toNat:Int)=false:=by simpa using ha
     rw[ha'] at HAM HT
     have HU:Hid (q=false):=af (by rw[HQ.out];exact tA (n:=k+1) (by rw[HT.out];rfl) (by omega))
     clear hl ha ha'
     go_wp2_with (first|(go_at_call 130;refine (HLT.out _).mono ?_;rintro e w' ⟨rfl,rfl⟩)|(go_at_call 131;refine HAM.out.mono ?_;rintro e w' ⟨rfl,rfl⟩))
     go_ret
     exact⟨cZ HU.out.symm,rfl⟩
   ·have hl':ex ((u[k]'hlt).toNat:Int)=false:=by simpa using hl
    rw[hl'] at HLT HT
    clear hl hl'
    go_wp2_with (first|(go_at_call 130;refine (HLT.out _).mono ?_;rintro e w' ⟨rfl,rfl⟩)|(go_at_call 131;refine HAM.out.mono ?_;rintro e w' ⟨rfl,rfl⟩))
    go_round
    case rel=>exact⟨k+1,by omega,by go_num,by rw[HT.out];rfl⟩
    case measure=>simp[intOf];omega
  ·have HU:Hid (q=true):=af (by rw[HQ.out,←HN.out,show k=u.size by omega])
   go_wp2
   go_ret
   exact⟨cZ HU.out.symm,rfl⟩
def eo (s:ByteArray)(L:List Nat):Nat:=(L.filter fun p=>aR (bt s p)).length
theorem qf (s:ByteArray)(L:List Nat)(k:Nat)(hk:k<L.length):eo s (L.take (k+1))=eo s (L.take k)+if aR (bt s L[k])=true then 1 else 0:=by
 rw[List.take_succ_eq_append_getElem hk]
 unfold eo
 rw[List.filter_append,List.length_append]
 by_cases h:aR (bt s L[k])=true <;> simp[h]
theorem mx (s:ByteArray)(L:List Nat):eo s L≤L.length:=List.length_filter_le _ _
theorem tF (s:ByteArray)(L:List Nat)(x:Int)(a a2:Option Addr)(m c m2 c2 B:Nat)(w:World)(hL:∀ p∈L,b7 s p=true)(hlen:L.length≤400)
  (h:w.ownsRow B 9 1 (.slice a m c) L.length (dJ s L)) :
  Calls Tryz.prog 78 #[.agg #[.int .i64 x,.slice a m c,.slice a2 m2 c2]] w fun e w'=>e=.returned (.int .i64 (eo s L:Nat))∧w.grownBy w' none:=by
 have e1:=au h
 subst e1
 have HL:=af hL
 clear hL
 go_enter Tryz.func78,Tryz.ntmps78
 go_wp2_with fail
 have h0:=h.alloc (.cells #[.int .i64 x,.slice a L.length c,.slice a2 m2 c2] 155)
 go_loop [3,4] (fun n t=>∃ k:Nat,k≤L.length∧t=.int .i64 k∧n=.int .i64 (eo s (L.take k):Nat)) (fun _ t=>L.length - (intOf t).toNat)
 case atStart=>exact⟨0,Nat.zero_le _,rfl,rfl⟩
 case round=>
  obtain⟨k,hk,rfl,rfl⟩:=hrel
  by_cases hlt:k<L.length
  ·obtain⟨g,rfl,_,hgb,hgl,hcell⟩:=aC h (by omega)
   have hok:=HL.out L[k] (List.getElem_mem hlt)
   obtain⟨p3,ps,p4⟩:=tB hok
   have hce:w.cell? ⟨g,k,none⟩=some (.string (s.extract L[k] (L[k]+aH s L[k]))):=hcell k _ (by simp[dJ,hlt])
   clear hcell
   obtain⟨u,hu⟩:∃ u,u=s.extract L[k] (L[k]+aH s L[k]):=⟨_,rfl⟩
   rw[←hu] at hce
   have husz:u.size=aH s L[k]:=by rw[hu,da ps];omega
   have v0:bt u 0=bt s L[k]:=by rw[hu,ka ps (by omega)];rfl
   have u0:0<u.size:=by omega
   have HPT:=af (fun W=>id u W u0)
   have HS:=af (qf s L k hlt)
   rw[←v0] at HS
   have hpc:=mx s (L.take k)
   have hpl:(L.take k).length≤L.length:=by simp;omega
   clear v0 hu husz hok p3 ps p4
   by_cases hc:aR (bt u 0)=true
   ·rw[hc] at HPT
    rw[if_pos hc] at HS
    go_wp2_with (go_at_call 107;refine (HPT.out _).mono ?_;rintro e w' ⟨rfl,rfl⟩)
    go_round
    case rel=>exact⟨k+1,by omega,by go_num,by rw[HS.out];go_num⟩
    case measure=>simp[intOf];omega
   ·have hc':aR (bt u 0)=false:=by simpa using hc
    rw[hc'] at HPT
    rw[if_neg hc] at HS
    go_wp2_with (go_at_call 107;refine (HPT.out _).mono ?_;rintro e w' ⟨rfl,rfl⟩)
    go_round
    case rel=>exact⟨k+1,by omega,by go_num,by rw[HS.out];go_num⟩
    case measure=>simp[intOf];omega
  ·go_wp2
   go_ret
   have e:L.take k=L:=List.take_of_length_le (by omega)
   rw[e]
   exact⟨rfl,ab (ag _ _) _⟩
end Go.Proofs.YthlhbjnkohinmaaGreat
