import Derived.Test.YthlhbjnkohinmaaGreatP05
namespace Go.Proofs.YthlhbjnkohinmaaGreat
set_option maxRecDepth 100000
set_option maxHeartbeats 8000000
def ce (s:ByteArray) (i:Nat) (q:Int) (j:Nat) (q':Int):Prop:=∃ n,j=i+n∧fM s n q i=q'
theorem ce.refl (s:ByteArray) (i:Nat) (q:Int):ce s i q i q:=⟨0,rfl,rfl⟩
theorem ce.trans {s:ByteArray} {i j k:Nat} {q q' q'':Int} (h:ce s i q j q') (g:ce s j q' k q''):ce s i q k q'':=by
 obtain⟨n,rfl,rfl⟩:=h
 obtain⟨m,rfl,rfl⟩:=g
 exact⟨n+m,by omega,iM s n m q i⟩
theorem ce.step {s:ByteArray} {i:Nat} {q q':Int} (h:a9 q (bt s i)=q'):ce s i q (i+1) q':=⟨1,rfl,h⟩
theorem ce.snoc {s:ByteArray} {i j:Nat} {q q' q'':Int} (h:ce s i q j q') (g:a9 q' (bt s j)=q''):ce s i q (j+1) q'':=h.trans (.step g)
def gp (s:ByteArray) (i:Nat) (q:Int) (j:Nat):Prop:=∃ q',ce s i q j q'∧0≤q'∧a9 q' (bt s j)=-1∧(q'=0→j<s.size)
theorem gp.after {s:ByteArray} {i j k:Nat} {q q':Int} (h:ce s i q j q') (g:gp s j q' k):gp s i q k:=by
 obtain⟨q'',g1,g2,g3,g4⟩:=g
 exact⟨q'',h.trans g1,g2,g3,g4⟩
theorem gp.here {s:ByteArray} {i j:Nat} {q q':Int} (h:ce s i q j q') (h0:0<q') (hs:a9 q' (bt s j)=-1):gp s i q j:=⟨q',h,by omega,hs,by omega⟩
theorem uT:aQ 33=false:=by decide
theorem tZ {s:ByteArray} {i:Nat} {q:Int} (hq:∀ c,aQ c=true→a9 q c=3) (h:bx s i=3):ce s i q (i+bx s i) 8:=by
 rw[h]
 unfold bx at h
 split at h
 ·split at h
  ·split at h
   ·rename_i h0 h1 h2
    have g1:ce s i q (i+1) 3:=.step (hq _ h0)
    have g2:ce s i q (i+2) 4:=g1.snoc (by simp[a9,bZ,h1])
    exact g2.snoc (by simp[a9,bZ,h2])
   ·omega
  ·omega
 ·omega
theorem rT {s:ByteArray} {i:Nat} {q:Int} (hq:∀ c,aQ c=true→a9 q c=3) (hq0:0<q) (hn:aQ (bt s i)=false→a9 q (bt s i)=-1) (h:¬bx s i=3):gp s i q (i+bx s i):=by
 unfold bx at h ⊢
 split
 ·rename_i h0
  have g1:ce s i q (i+1) 3:=.step (hq _ h0)
  split
  ·rename_i h1
   have g2:ce s i q (i+2) 4:=g1.snoc (by simp[a9,bZ,h1])
   split
   ·rename_i h2;simp[h0,h1,h2] at h
   ·rename_i h2
    exact .here g2 (by omega) (by simp[a9,bZ,h2])
  ·rename_i h1
   exact .here g1 (by omega) (by simp[a9,bZ,h1])
 ·rename_i h0
  exact .here (ce.refl _ _ _) hq0 (hn (by simpa using h0))
theorem F7 {c:Int} (h:aQ c=true):bc c=false:=by
 simp only[aQ,decide_eq_true_eq] at h
 simp only[bc,bM,ew,Bool.or_eq_false_iff,decide_eq_false_iff_not]
 omega
theorem B8 {s:ByteArray} {i:Nat} (h0:aQ (bt s i)=false) (h33:¬bt s i=33) (h:bT s i=3):ce s i 2 (i+bT s i) 8:=by
 rw[h]
 unfold bT at h
 split at h
 ·split at h
  ·split at h
   ·rename_i h1 h2 h3
    have g1:ce s i 2 (i+1) 6:=.step (by simp[a9,bZ,h0,h33,h1])
    have g2:ce s i 2 (i+2) 7:=g1.snoc (by have:bt s (i+1)=60∨bt s (i+1)=61∨bt s (i+1)=35:=by simpa [gF,or_assoc] using h2
                           simp[a9,bZ,this])
    exact g2.snoc (by simp[a9,bZ,h3])
   ·omega
  ·omega
 ·omega
theorem BK {s:ByteArray} {i:Nat} (h0:aQ (bt s i)=false) (h33:¬bt s i=33) (h:¬bT s i=3):gp s i 2 (i+bT s i):=by
 unfold bT at h ⊢
 split
 ·rename_i h1
  have g1:ce s i 2 (i+1) 6:=.step (by simp[a9,bZ,h0,h33,h1])
  split
  ·rename_i h2
   have g2:ce s i 2 (i+2) 7:=g1.snoc (by have:bt s (i+1)=60∨bt s (i+1)=61∨bt s (i+1)=35:=by simpa [gF,or_assoc] using h2
                          simp[a9,bZ,this])
   split
   ·rename_i h3;simp[h1,h2,h3] at h
   ·rename_i h3
    exact .here g2 (by omega) (by simp[a9,bZ,h3])
  ·rename_i h2
   refine .here g1 (by omega) ?_
   have:¬(bt s (i+1)=60∨bt s (i+1)=61∨bt s (i+1)=35):=by simpa [gF,or_assoc] using h2
   simp[a9,bZ,this]
 ·rename_i h1
  exact .here (ce.refl _ _ _) (by omega) (by simp[a9,bZ,h0,h33,h1])
theorem oW {s:ByteArray} {i:Nat} (h:b7 s i=true):ce s i 2 (i+aG s i) 8:=by
 unfold b7 at h;unfold aG
 by_cases h33:bt s i=33
 ·simp only[h33,if_true] at h ⊢
  have hp:bx s (i+1)=3:=by simpa using h
  have g:ce s i 2 (i+1) 5:=.step (by simp[a9,bZ,h33,uT])
  have:=g.trans (tZ (q:=5) (fun c hc=>by simp[a9,bZ,hc]) hp)
  rwa [show i+(1+bx s (i+1))=i+1+bx s (i+1) by omega]
 ·by_cases hc:aQ (bt s i)=true
  ·simp only[h33,hc,if_false,if_true] at h ⊢
   exact tZ (q:=2) (fun c hc=>by simp[a9,bZ,hc]) (by simpa using h)
  ·simp only[h33,hc,if_false] at h ⊢
   exact B8 (by simpa using hc) h33 (by simpa using h)
theorem CW {s:ByteArray} {i:Nat} (h:b7 s i=false):gp s i 2 (i+aG s i):=by
 unfold b7 at h;unfold aG
 by_cases h33:bt s i=33
 ·simp only[h33,if_true] at h ⊢
  have g:ce s i 2 (i+1) 5:=.step (by simp[a9,bZ,h33,uT])
  have:=gp.after g (rT (q:=5) (fun c hc=>by simp[a9,bZ,hc]) (by omega) (fun hc=>by simp[a9,bZ,hc]) (by simpa using h))
  rwa [show i+(1+bx s (i+1))=i+1+bx s (i+1) by omega]
 ·by_cases hc:aQ (bt s i)=true
  ·simp only[h33,hc,if_false,if_true] at h ⊢
   exact rT (q:=2) (fun c hc=>by simp[a9,bZ,hc]) (by omega) (fun hx=>by rw[hc] at hx;cases hx) (by simpa using h)
  ·simp only[h33,hc,if_false] at h ⊢
   exact BK (by simpa using hc) h33 (by simpa using h)
theorem B6 {s:ByteArray} {i:Nat} (h:¬i<s.size):bt s i=0:=nX h
theorem vV {s:ByteArray} {i:Nat} {L:List Nat} {j:Nat} {ok:Bool} (h:jx s i L j ok):(ok=true→ce s i 2 j 9)∧(ok=false→gp s i 2 j):=by
 refine jx.ind (M:=fun i L j ok=>(ok=true→ce s i 2 j 9)∧(ok=false→gp s i 2 j)) ?_ ?_ ?_ ?_ ?_ h
 ·intro _ h
  exact⟨fun h=>(by cases h),fun _=>.here (ce.refl _ _ _) (by omega) (by rw[B6 h];decide)⟩
 ·intro _ _ h
  exact⟨fun h=>(by cases h),fun _=>CW h⟩
 ·intro _ _ h he
  exact⟨fun _=>(oW h).snoc (by rw[he];decide),fun h=>(by cases h)⟩
 ·intro _ _ h h1 h2
  exact⟨fun h=>(by cases h),fun _=>.here (oW h) (by omega) (by simp[a9,bZ,h1,h2])⟩
 ·intro _ _ _ _ _ h h1 _ ih
  have g:=(oW h).snoc (q'':=2) (by rw[h1];decide)
  exact⟨fun e=>g.trans (ih.1 e),fun e=>.after g (ih.2 e)⟩
theorem mK {s:ByteArray} {i:Nat} {q a b:Int} (h1:∀ c,bc c=true→a9 q c=a) (h2:∀ c,e9 c=true→a9 a c=b) (h:bc (bt s i)=true) :
  (e9 (bt s (i+1))=true∧ce s i q (c9 s i) b)∨(e9 (bt s (i+1))=false∧c9 s i=i+1∧ce s i q (c9 s i) a):=by
 have g:ce s i q (i+1) a:=.step (h1 _ h)
 unfold c9
 by_cases ht:e9 (bt s (i+1))=true
 ·left;simp only[ht,if_true];exact⟨trivial,g.snoc (h2 _ ht)⟩
 ·have ht':e9 (bt s (i+1))=false:=by simpa using ht
  right;simp only[ht',Bool.false_eq_true,if_false];exact⟨trivial,trivial,g⟩
theorem Fe {c:Int} (h:bc c=true):e9 c=false:=by
 simp only[bc,bM,ew,Bool.or_eq_true,decide_eq_true_eq] at h
 simp only[e9,Bool.or_eq_false_iff,beq_eq_false_iff_ne]
 omega
def Fo (s:ByteArray) (i:Nat) (j:Nat):Prop:=ce s i 9 j 17∨(ce s i 9 j 16∧e9 (bt s j)=false)
theorem Dd {s:ByteArray} {i:Nat} (h:gk s i=true):ce s i 14 (i+c7 s i) 17∨(ce s i 14 (i+c7 s i) 16∧e9 (bt s (i+c7 s i))=false):=by
 simp only[gk,Bool.and_eq_true] at h
 obtain⟨h0,h1⟩:=h
 have hj:=es s (i+1)
 have e:i+c7 s i=c9 s (i+1):=by simp[c7,h0,h1];omega
 rw[e]
 have g1:ce s i 14 (i+1) 15:=.step (by simp[a9,dL,h0])
 rcases mK (q:=15) (a:=16) (b:=17) (fun c hc=>by simp[a9,dL,hc]) (fun c hc=>by simp[a9,dL,hc]) h1 with ⟨_,g⟩|⟨ht,hjj,g⟩
 ·exact .inl (g1.trans g)
 ·exact .inr ⟨g1.trans g,by rw[hjj];exact ht⟩
theorem As {s:ByteArray} {i:Nat} (h:gk s i=false):gp s i 14 (i+c7 s i):=by
 unfold gk at h;unfold c7
 split
 ·rename_i h0
  have g1:ce s i 14 (i+1) 15:=.step (by simp[a9,dL,h0])
  split
  ·rename_i h1;simp[h0,h1] at h
  ·rename_i h1;exact .here g1 (by omega) (by simp[a9,dL,h1])
 ·rename_i h0;exact .here (ce.refl _ _ _) (by omega) (by simp[a9,dL,h0])
theorem Cp {s:ByteArray} {i:Nat} (h:fI s i=true):ce s i 10 (i+cO s i) 17∨(ce s i 10 (i+cO s i) 16∧e9 (bt s (i+cO s i))=false):=by
 simp only[fI,Bool.and_eq_true] at h
 obtain⟨⟨h0,h1⟩,h2⟩:=h
 have hj:=es s (i+1)
 have hj2:=es s (c9 s (i+1))
 have e:i+cO s i=c9 s (c9 s (i+1)):=by simp[cO,h0,h1,h2];omega
 rw[e]
 have g1:ce s i 10 (i+1) 11:=.step (by simp[a9,dL,h0])
 have g2:ce s i 10 (c9 s (i+1)) 13∨(ce s i 10 (c9 s (i+1)) 12∧e9 (bt s (c9 s (i+1)))=false):=by
  rcases mK (q:=11) (a:=12) (b:=13) (fun c hc=>by simp[a9,dL,hc]) (fun c hc=>by simp[a9,dL,hc]) h1 with ⟨_,g⟩|⟨ht,hjj,g⟩
  ·exact .inl (g1.trans g)
  ·exact .inr ⟨g1.trans g,by rw[hjj];exact ht⟩
 rcases g2 with g2|⟨g2,ht⟩
 ·rcases mK (q:=13) (a:=16) (b:=17) (fun c hc=>by simp[a9,dL,hc]) (fun c hc=>by simp[a9,dL,hc]) h2 with ⟨_,g⟩|⟨ht,hjj,g⟩
  ·exact .inl (g2.trans g)
  ·exact .inr ⟨g2.trans g,by rw[hjj];exact ht⟩
 ·rcases mK (q:=12) (a:=16) (b:=17) (fun c hc=>by simp[a9,dL,hc,Fe hc]) (fun c hc=>by simp[a9,dL,hc]) h2 with ⟨_,g⟩|⟨ht,hjj,g⟩
  ·exact .inl (g2.trans g)
  ·exact .inr ⟨g2.trans g,by rw[hjj];exact ht⟩
theorem BL {s:ByteArray} {i:Nat} (h:fI s i=false):gp s i 10 (i+cO s i):=by
 unfold fI at h;unfold cO
 split
 ·rename_i h0
  have g1:ce s i 10 (i+1) 11:=.step (by simp[a9,dL,h0])
  split
  ·rename_i h1
   have hj:=es s (i+1)
   split
   ·rename_i h2;simp[h0,h1,h2] at h
   ·rename_i h2
    rw[show i+(c9 s (i+1) - i)=c9 s (i+1) by omega]
    rcases mK (q:=11) (a:=12) (b:=13) (fun c hc=>by simp[a9,dL,hc]) (fun c hc=>by simp[a9,dL,hc]) h1 with ⟨_,g⟩|⟨ht,hjj,g⟩
    ·exact .here (g1.trans g) (by omega) (by simp[a9,dL,h2])
    ·exact .here (g1.trans g) (by omega) (by rw[←hjj] at ht;simp[a9,dL,h2,ht])
  ·rename_i h1;exact .here g1 (by omega) (by simp[a9,dL,h1])
 ·rename_i h0;exact .here (ce.refl _ _ _) (by omega) (by simp[a9,dL,h0])
theorem tH {s:ByteArray} {i:Nat} (h:cP s i=true):Fo s i (i+aT s i):=by
 unfold cP at h;unfold aT Fo
 by_cases h43:bt s i=43
 ·simp only[h43,if_true] at h ⊢
  have g:ce s i 9 (i+1) 10:=.step (by rw[h43];decide)
  rw[show i+(1+cO s (i+1))=i+1+cO s (i+1) by omega]
  rcases Cp h with g2|⟨g2,ht⟩
  ·exact .inl (g.trans g2)
  ·exact .inr ⟨g.trans g2,ht⟩
 ·by_cases h45:bt s i=45
  ·simp only[h45,if_true] at h ⊢
   have g:ce s i 9 (i+1) 14:=.step (by rw[h45];decide)
   simp only[show ¬(45:Int)=43 by decide,if_false] at h ⊢
   rw[show i+(1+c7 s (i+1))=i+1+c7 s (i+1) by omega]
   rcases Dd h with g2|⟨g2,ht⟩
   ·exact .inl (g.trans g2)
   ·exact .inr ⟨g.trans g2,ht⟩
  ·simp only[h43,h45,if_false,beq_iff_eq] at h
   simp only[h,if_true,show ¬(46:Int)=43 by decide,show ¬(46:Int)=45 by decide,if_false]
   exact .inl (.step (by rw[h];decide))
theorem CB {s:ByteArray} {i:Nat} (h:cP s i=false):gp s i 9 (i+aT s i):=by
 unfold cP at h;unfold aT
 by_cases h43:bt s i=43
 ·simp only[h43,if_true] at h ⊢
  have g:ce s i 9 (i+1) 10:=.step (by rw[h43];decide)
  rw[show i+(1+cO s (i+1))=i+1+cO s (i+1) by omega]
  exact .after g (BL h)
 ·by_cases h45:bt s i=45
  ·simp only[h45,if_true] at h ⊢
   have g:ce s i 9 (i+1) 14:=.step (by rw[h45];decide)
   simp only[show ¬(45:Int)=43 by decide,if_false] at h ⊢
   rw[show i+(1+c7 s (i+1))=i+1+c7 s (i+1) by omega]
   exact .after g (As h)
  ·have h46:¬bt s i=46:=by simpa [h43,h45] using h
   simp only[h43,h45,h46,if_false]
   exact .here (ce.refl _ _ _) (by omega) (by simp[a9,dL,h43,h45,h46])
theorem vJ {s:ByteArray} {i:Nat} {L:List Nat} {j:Nat} {ok:Bool} (h:jV s i L j ok):(ok=true→ce s i 9 j 0)∧(ok=false→gp s i 9 j):=by
 refine jV.ind (M:=fun i L j ok=>(ok=true→ce s i 9 j 0)∧(ok=false→gp s i 9 j)) ?_ ?_ ?_ ?_ ?_ h
 ·intro _ h
  exact⟨fun h=>(by cases h),fun _=>.here (ce.refl _ _ _) (by omega) (by rw[B6 h];decide)⟩
 ·intro _ _ h
  exact⟨fun h=>(by cases h),fun _=>CB h⟩
 ·intro _ _ h he
  refine⟨fun _=>?_,fun h=>(by cases h)⟩
  rcases tH h with g|⟨g,_⟩
  ·exact g.snoc (by rw[he];decide)
  ·exact g.snoc (by rw[he];decide)
 ·intro _ _ h h1 h2
  refine⟨fun h=>(by cases h),fun _=>?_⟩
  rcases tH h with g|⟨g,ht⟩
  ·exact .here g (by omega) (by simp[a9,dL,h1,h2])
  ·exact .here g (by omega) (by simp[a9,dL,h1,h2,ht])
 ·intro i' _ _ _ _ h h1 _ ih
  have g:ce s i' 9 (i'+aT s i'+1) 9:=by
   rcases tH h with g|⟨g,_⟩
   ·exact g.snoc (by rw[h1];decide)
   ·exact g.snoc (by rw[h1];decide)
  exact⟨fun e=>g.trans (ih.1 e),fun e=>.after g (ih.2 e)⟩
theorem tV {s:ByteArray} {i:Nat} {L K:List Nat} {j:Nat} {ok:Bool} (hi:i<s.size) (h:rk s i L K j ok):(ok=true→ce s i 0 j 0)∧(ok=false→gp s i 0 j):=by
 rcases h with ⟨h,_,_,rfl,rfl⟩|⟨h,h1,_,_,rfl,rfl⟩|⟨h,h1,hc,_,rfl⟩|⟨j1,h,h1,hc,ha⟩
 ·exact⟨fun h=>(by cases h),fun _=>⟨0,ce.refl _ _ _,by omega,by simp[a9,bZ,h],fun _=>hi⟩⟩
 ·exact⟨fun h=>(by cases h),fun _=>.here (.step (q':=1) (by simp[a9,bZ,h])) (by omega) (by simp[a9,bZ,h1])⟩
 ·have g:ce s i 0 (i+2) 2:=(ce.step (q':=1) (by simp[a9,bZ,h])).snoc (by rw[h1];decide)
  exact⟨fun h=>(by cases h),fun _=>.after g ((vV hc).2 rfl)⟩
 ·have g:ce s i 0 (i+2) 2:=(ce.step (q':=1) (by simp[a9,bZ,h])).snoc (by rw[h1];decide)
  have g2:=g.trans ((vV hc).1 rfl)
  exact⟨fun e=>g2.trans ((vJ ha).1 e),fun e=>.after g2 ((vJ ha).2 e)⟩
theorem pD {s:ByteArray} {i:Nat} {R:List ax} {j:Nat} {ok:Bool} (h:kJ s i R j ok):(ok=true→ce s i 0 j 0∧¬j<s.size)∧(ok=false→gp s i 0 j):=by
 refine kJ.ind (M:=fun i R j ok=>(ok=true→ce s i 0 j 0∧¬j<s.size)∧(ok=false→gp s i 0 j)) ?_ ?_ ?_ h
 ·intro _ h
  exact⟨fun _=>⟨ce.refl _ _ _,h⟩,fun h=>(by cases h)⟩
 ·intro _ _ _ _ hi h
  exact⟨fun h=>(by cases h),fun _=>(tV hi h).2 rfl⟩
 ·intro _ _ _ _ _ _ _ hi h _ ih
  have g:=(tV hi h).1 rfl
  exact⟨fun e=>⟨g.trans (ih.1 e).1,(ih.1 e).2⟩,fun e=>.after g (ih.2 e)⟩
theorem Br (c:Int):a9 (-1) c=-1:=by simp[a9,bZ]
theorem xH (q:Int):a9 q 0=-1:=by
 have h1:bM 0=false:=by decide
 have h2:aQ 0=false:=by decide
 have h3:bc 0=false:=by decide
 have h4:c8 0=false:=by decide
 have h5:e9 0=false:=by decide
 simp[a9,bZ,dL,h1,h2,h3,h4,h5]
theorem kW (s:ByteArray):∀ (n:Nat) (i:Nat),fM s n (-1) i=-1
 |0,_=>rfl
 |n+1,i=>by simp only[fM,Br];exact kW s n _
theorem kY (s:ByteArray) (n:Nat) (h:0≤fM s n 0 0):n≤s.size:=by
 by_cases hn:n≤s.size
 ·exact hn
 ·have e:n=(s.size+1)+(n - s.size - 1):=by omega
  rw[e,iM,iC,nX (by omega),xH,kW] at h
  omega
theorem xw {s:ByteArray} {j:Nat} (h:gp s 0 0 j) {p:Int} (hp:qD s p):p=j:=by
 obtain⟨q,⟨n,hn,hq⟩,h0,h1,h2⟩:=h
 have hn:n=j:=by omega
 subst hn
 have hjs:n≤s.size:=kY s n (by rw[hq];exact h0)
 have hdead:∀ m,n<m→fM s m 0 0=-1:=by
  intro m hm
  rw[show m=(n+1)+(m - n - 1) by omega,iM,iC,hq,Nat.zero_add,h1,kW]
 rcases hp with ⟨_,h⟩|⟨k,rfl,hk,h3,h4,h5⟩
 ·by_cases e:n=s.size
  ·rw[←e,hq] at h
   have:=h2 h
   omega
  ·rw[hdead s.size (by omega)] at h
   omega
 ·rcases Nat.lt_trichotomy k n with hlt|he|hgt
  ·have hx:=h4 (by omega)
   have:fM s n 0 0=-1:=by rw[show n=(k+1)+(n - k - 1) by omega,iM,iC,Nat.zero_add,hx,kW]
   omega
  ·rw[he]
  ·rw[hdead k hgt] at h3
   omega
theorem yf {s:ByteArray} {j:Nat} (h:ce s 0 0 j 0) (hj:¬j<s.size) {p:Int} (hp:qD s p):p=-1∧j=s.size:=by
 obtain⟨n,hn,hq⟩:=h
 have hn:n=j:=by omega
 subst hn
 have hjs:n≤s.size:=kY s n (by rw[hq];omega)
 have e:n=s.size:=by omega
 subst e
 refine⟨?_,rfl⟩
 rcases hp with ⟨h,_⟩|⟨k,rfl,hk,h3,h4,h5⟩
 ·exact h
 ·by_cases e:k=s.size
  ·exact absurd (by rw[e];exact hq) (h5 e)
  ·have hx:=h4 (by omega)
   have:fM s s.size 0 0=-1:=by rw[show s.size=(k+1)+(s.size - k - 1) by omega,iM,iC,Nat.zero_add,hx,kW]
   omega
def lG (c:Int):Bool:=c==44||c==59||c==62
theorem tF {c:Int} (h:aQ c=true):lG c=false:=by
 simp only[aQ,decide_eq_true_eq] at h
 simp only[lG,Bool.or_eq_false_iff,beq_eq_false_iff_ne];omega
theorem o9 {c:Int} (h:bc c=true):lG c=false:=by
 simp only[bc,bM,ew,Bool.or_eq_true,decide_eq_true_eq] at h
 simp only[lG,Bool.or_eq_false_iff,beq_eq_false_iff_ne];omega
theorem yE {c:Int} (h:c8 c=true):lG c=false:=by
 simp only[c8,bc,bM,ew,Bool.or_eq_true,decide_eq_true_eq,beq_iff_eq] at h
 simp only[lG,Bool.or_eq_false_iff,beq_eq_false_iff_ne];omega
theorem Et {c:Int} (h:gF c=true):lG c=false:=by
 simp only[gF,Bool.or_eq_true,beq_iff_eq] at h
 simp only[lG,Bool.or_eq_false_iff,beq_eq_false_iff_ne];omega
theorem EO {c:Int} (h:e9 c=true):lG c=false:=by
 simp only[e9,Bool.or_eq_true,beq_iff_eq] at h
 simp only[lG,Bool.or_eq_false_iff,beq_eq_false_iff_ne];omega
def iy (s:ByteArray) (i j:Nat):Prop:=∀ q,i≤q→q<j→lG (bt s q)=false
theorem iy.one {s:ByteArray} {i:Nat} (h:lG (bt s i)=false):iy s i (i+1):=fun q h1 h2=>by rw[show q=i by omega];exact h
theorem iy.trans {s:ByteArray} {i j k:Nat} (h:iy s i j) (g:iy s j k):iy s i k:=fun q h1 h2=>by
 by_cases hq:q<j
 ·exact h q h1 hq
 ·exact g q (by omega) h2
theorem iy.snoc {s:ByteArray} {i j:Nat} (h:iy s i j) (g:lG (bt s j)=false):iy s i (j+1):=h.trans (.one g)
theorem vK {s:ByteArray} {i:Nat} (h:bx s i=3):iy s i (i+3):=by
 unfold bx at h
 split at h
 ·split at h
  ·split at h
   ·rename_i h0 h1 h2
    exact ((iy.one (tF h0)).snoc (yE h1)).snoc (yE h2)
   ·omega
  ·omega
 ·omega
theorem Cw {s:ByteArray} {i:Nat} (h:bT s i=3):iy s i (i+3):=by
 unfold bT at h
 split at h
 ·split at h
  ·split at h
   ·rename_i h0 h1 h2
    exact ((iy.one (o9 h0)).snoc (Et h1)).snoc (o9 h2)
   ·omega
  ·omega
 ·omega
theorem lw {s:ByteArray} {i:Nat} (h:b7 s i=true):iy s i (i+aG s i):=by
 unfold b7 at h;unfold aG
 by_cases h33:bt s i=33
 ·simp only[h33,if_true] at h ⊢
  have hp:bx s (i+1)=3:=by simpa using h
  rw[hp]
  exact (iy.one (by rw[h33];decide)).trans (vK hp)
 ·by_cases hc:aQ (bt s i)=true
  ·simp only[h33,hc,if_false,if_true] at h ⊢
   have hp:bx s i=3:=by simpa using h
   rw[hp];exact vK hp
  ·simp only[h33,hc,if_false] at h ⊢
   have hp:bT s i=3:=by simpa using h
   rw[hp];exact Cw hp
theorem tN {s:ByteArray} {i:Nat} (h:bc (bt s i)=true):iy s i (c9 s i):=by
 unfold c9
 split
 ·rename_i ht;exact (iy.one (o9 h)).snoc (EO ht)
 ·exact iy.one (o9 h)
theorem oZ {s:ByteArray} {i:Nat} (h:cP s i=true):iy s i (i+aT s i):=by
 unfold cP at h;unfold aT
 by_cases h43:bt s i=43
 ·simp only[h43,if_true] at h ⊢
  simp only[fI,Bool.and_eq_true] at h
  obtain⟨⟨h0,h1⟩,h2⟩:=h
  have hj:=es s (i+1+1)
  have hj2:=es s (c9 s (i+1+1))
  have e:i+(1+cO s (i+1))=c9 s (c9 s (i+1+1)):=by simp[cO,h0,h1,h2];omega
  rw[e]
  exact (((iy.one (by rw[h43];decide)).snoc (tF h0)).trans (tN h1)).trans (tN h2)
 ·by_cases h45:bt s i=45
  ·simp only[h45,if_true,show ¬(45:Int)=43 by decide,if_false] at h ⊢
   simp only[gk,Bool.and_eq_true] at h
   obtain⟨h0,h1⟩:=h
   have hj:=es s (i+1+1)
   have e:i+(1+c7 s (i+1))=c9 s (i+1+1):=by simp[c7,h0,h1];omega
   rw[e]
   exact ((iy.one (by rw[h45];decide)).snoc (tF h0)).trans (tN h1)
  ·simp only[h43,h45,if_false,beq_iff_eq] at h
   simp only[h,if_true,show ¬(46:Int)=43 by decide,show ¬(46:Int)=45 by decide,if_false]
   exact iy.one (by rw[h];decide)
theorem jO {s:ByteArray} {a b:Int} (ha:lG a=true) (hb:lG b=true):∀ (m n f i:Nat),iy s i (i+m)→d8 s a b (m+n) f i=d8 s a b n f (i+m)
 |0,n,f,i,_=>by simp
 |m+1,n,f,i,h=>by
  have h0:=h i (by omega) (by omega)
  rw[show m+1+n=(m+n)+1 by omega,d8,if_neg (by
   rintro (e|e)
   ·rw[e,ha] at h0;cases h0
   ·rw[e,hb] at h0;cases h0),jO ha hb m n f (i+1) (fun q h1 h2=>h q (by omega) (by omega)),show i+1+m=i+(m+1) by omega]
theorem EI {s:ByteArray} {i:Nat} {L:List Nat} {j:Nat} {ok:Bool} (h:jx s i L j ok):ok=true→d8 s 44 62 (j - i) i i=L.map fun p=>(p,p+aG s p):=by
 refine jx.ind (M:=fun i L j ok=>ok=true→d8 s 44 62 (j - i) i i=L.map fun p=>(p,p+aG s p)) ?_ ?_ ?_ ?_ ?_ h
 ·intro _ _
  intro h;cases h
 ·intro _ _ _
  intro h;cases h
 ·intro i' _ h he
  intro _
  rw[show i'+aG s i'+1 - i'=aG s i'+1 by omega,jO (by decide) (by decide) _ 1 _ _ (lw h),d8,if_pos (.inr he)]
  rfl
 ·intro _ _ _ _ _
  intro h;cases h
 ·intro i' L' j' _ _ h he hn ih
  intro e
  have hle:=sQ hn
  rw[show j' - i'=aG s i'+((j' - (i'+aG s i'+1))+1) by omega,jO (by decide) (by decide) _ _ _ _ (lw h),d8,if_pos (.inl he),ih e]
  rfl
theorem EP {s:ByteArray} {i:Nat} {L:List Nat} {j:Nat} {ok:Bool} (h:jV s i L j ok):ok=true→d8 s 44 59 (j - i) i i=L.map fun p=>(p,p+aT s p):=by
 refine jV.ind (M:=fun i L j ok=>ok=true→d8 s 44 59 (j - i) i i=L.map fun p=>(p,p+aT s p)) ?_ ?_ ?_ ?_ ?_ h
 ·intro _ _
  intro h;cases h
 ·intro _ _ _
  intro h;cases h
 ·intro i' _ h he
  intro _
  rw[show i'+aT s i'+1 - i'=aT s i'+1 by omega,jO (by decide) (by decide) _ 1 _ _ (oZ h),d8,if_pos (.inr he)]
  rfl
 ·intro _ _ _ _ _
  intro h;cases h
 ·intro i' L' j' _ _ h he hn ih
  intro e
  have hle:=wJ hn
  rw[show j' - i'=aT s i'+((j' - (i'+aT s i'+1))+1) by omega,jO (by decide) (by decide) _ _ _ _ (oZ h),d8,if_pos (.inl he),ih e]
  rfl
def No (s:ByteArray) (c:Int) (i j:Nat):Prop:=∀ q,i≤q→q<j→bt s q≠c
theorem No.trans {s:ByteArray} {c:Int} {i j k:Nat} (h:No s c i j) (g:No s c j k):No s c i k:=fun q h1 h2=>by
 by_cases hq:q<j
 ·exact h q h1 hq
 ·exact g q (by omega) h2
theorem No.one {s:ByteArray} {c:Int} {i:Nat} (h:bt s i≠c):No s c i (i+1):=fun q h1 h2=>by rw[show q=i by omega];exact h
theorem No.bare {s:ByteArray} {c:Int} (hc:lG c=true) {i j:Nat} (h:iy s i j):No s c i j:=fun q h1 h2 e=>by
 have:=h q h1 h2;rw[e,hc] at this;cases this
def cW (s:ByteArray) (L:List Nat):Nat:=L.getLastD 0+aG s (L.getLastD 0)
def bN (s:ByteArray) (L:List Nat):Nat:=L.getLastD 0+aT s (L.getLastD 0)
theorem qh {L:List Nat} (a:Nat) (h:L≠[]):(a::L).getLastD 0=L.getLastD 0:=by
 cases L with
 |nil=>exact absurd rfl h
 |cons b L=>simp[List.getLastD]
theorem mP {s:ByteArray} {i:Nat} {L:List Nat} {j:Nat} {ok:Bool} (h:jx s i L j ok):ok=true→L≠[]∧j=cW s L+1∧bt s (cW s L)=62∧No s 62 i (cW s L)∧No s 59 i (cW s L)∧i≤cW s L:=by
 refine jx.ind (M:=fun i L j ok=>ok=true→L≠[]∧j=cW s L+1∧bt s (cW s L)=62∧No s 62 i (cW s L)∧No s 59 i (cW s L)∧i≤cW s L) ?_ ?_ ?_ ?_ ?_ h
 ·intro _ _
  intro h;cases h
 ·intro _ _ _
  intro h;cases h
 ·intro i' _ h he
  intro _;exact⟨by simp,rfl,he,.bare (by decide) (lw h),.bare (by decide) (lw h),by simp[cW]⟩
 ·intro _ _ _ _ _
  intro h;cases h
 ·intro i' L' j' _ _ h he hn ih
  intro e
  obtain⟨h1,h2,h3,h4,h5,h6⟩:=ih e
  have hd:cW s (i'::L')=cW s L':=by unfold cW;rw[qh i' h1]
  rw[hd]
  exact⟨by simp,h2,h3,((No.bare (by decide) (lw h)).trans (.one (by rw[he];decide))).trans h4,((No.bare (by decide) (lw h)).trans (.one (by rw[he];decide))).trans h5,by omega⟩
theorem mx {s:ByteArray} {i:Nat} {L:List Nat} {j:Nat} {ok:Bool} (h:jV s i L j ok):ok=true→L≠[]∧j=bN s L+1∧bt s (bN s L)=59∧No s 59 i (bN s L)∧i≤bN s L∧bN s L<s.size:=by
 refine jV.ind (M:=fun i L j ok=>ok=true→L≠[]∧j=bN s L+1∧bt s (bN s L)=59∧No s 59 i (bN s L)∧i≤bN s L∧bN s L<s.size) ?_ ?_ ?_ ?_ ?_ h
 ·intro _ _
  intro h;cases h
 ·intro _ _ _
  intro h;cases h
 ·intro i' _ h he
  intro _;exact⟨by simp,rfl,he,.bare (by decide) (oZ h),by simp[bN],dd (by show bt s (i'+aT s i')≠0;omega)⟩
 ·intro _ _ _ _ _
  intro h;cases h
 ·intro i' L' j' _ _ h he hn ih
  intro e
  obtain⟨h1,h2,h3,h4,h5,h6⟩:=ih e
  have hd:bN s (i'::L')=bN s L':=by unfold bN;rw[qh i' h1]
  rw[hd]
  exact⟨by simp,h2,h3,((No.bare (by decide) (oZ h)).trans (.one (by rw[he];decide))).trans h4,by omega,h6⟩
theorem y8 {s:ByteArray} {a:Int}:∀ (m n f i:Nat),No s a i (i+m)→d8 s a a (m+n) f i=d8 s a a n f (i+m)
 |0,n,f,i,_=>by simp
 |m+1,n,f,i,h=>by
  have h0:=h i (by omega) (by omega)
  rw[show m+1+n=(m+n)+1 by omega,d8,if_neg (by rintro (e|e) <;> exact h0 e),y8 m n f (i+1) (fun q h1 h2=>h q (by omega) (by omega)),show i+1+m=i+(m+1) by omega]
structure gd (s:ByteArray) (r:ax):Prop where
 dig:bM (bt s r.1)=true
 colon:bt s (r.1+1)=58
 conds:jx s (r.1+2) r.2.1 (cW s r.2.1+1) true
 acts:jV s (cW s r.2.1+1) r.2.2 (bN s r.2.2+1) true
theorem gd.of {s:ByteArray} {i:Nat} {L K:List Nat} {j:Nat} (h:rk s i L K j true):gd s (i,L,K)∧j=bN s K+1:=by
 obtain⟨j1,hd,h1,hc,ha⟩:=h.yes
 have e1:=(mP hc rfl).2.1
 have e2:=(mx ha rfl).2.1
 subst e1 e2
 exact⟨⟨hd,h1,hc,ha⟩,rfl⟩
theorem C3 {c:Int} (h:bM c=true):c≠59∧c≠62:=by
 simp only[bM,decide_eq_true_eq] at h;omega
theorem gd.no59 {s:ByteArray} {r:ax} (h:gd s r):No s 59 r.1 (bN s r.2.2):=by
 have hc:=mP h.conds rfl
 have ha:=mx h.acts rfl
 exact ((((No.one (C3 h.dig).1).trans (.one (by rw[h.colon];decide))).trans hc.2.2.2.2.1).trans (.one (by rw[hc.2.2.1];decide))).trans ha.2.2.2.1
theorem gd.no62 {s:ByteArray} {r:ax} (h:gd s r):No s 62 r.1 (cW s r.2.1):=by
 have hc:=mP h.conds rfl
 exact ((No.one (C3 h.dig).2).trans (.one (by rw[h.colon];decide))).trans hc.2.2.2.1
theorem te {s:ByteArray} {i:Nat} {R:List ax} {j:Nat} {ok:Bool} (h:kJ s i R j ok):ok=true→d8 s 59 59 (j - i) i i=(R.map fun r=>(r.1,bN s r.2.2))∧∀ r∈R,gd s r:=by
 refine kJ.ind (M:=fun i R j ok=>ok=true→d8 s 59 59 (j - i) i i=(R.map fun r=>(r.1,bN s r.2.2))∧∀ r∈R,gd s r) ?_ ?_ ?_ h
 ·intro _ _
  intro _;simp[d8]
 ·intro _ _ _ _ _ _
  intro h;cases h
 ·intro i' L K j1 R' j' _ hi h hn ih
  intro e
  obtain⟨hk,hj⟩:=gd.of h
  obtain⟨e1,e2⟩:=ih e
  have hle:=pb hn
  have ha:=mx hk.acts rfl
  have hc:=mP hk.conds rfl
  have h1:i'+2≤cW s L:=hc.2.2.2.2.2
  have h2:cW s L+1≤bN s K:=ha.2.2.2.2.1
  have h3:bt s (bN s K)=59:=ha.2.2.1
  have hno:No s 59 i' (bN s K):=hk.no59
  subst hj
  refine⟨?_,?_⟩
  ·rw[show j' - i'=(bN s K - i')+((j' - (bN s K+1))+1) by omega,y8 _ _ _ _ (by rw[show i'+(bN s K - i')=bN s K by omega];exact hno),show i'+(bN s K - i')=bN s K by omega,d8,if_pos (.inl h3),e1]
   rfl
  ·intro r hr
   rcases List.mem_cons.mp hr with rfl|hr
   ·exact hk
   ·exact e2 r hr
open Go.RowKit
theorem da {s:ByteArray} {a b:Nat} (_hb:b≤s.size):(s.extract a b).size=b - a:=by
 rw[ByteArray.size_extract];omega
theorem iY {s:ByteArray} {a b k:Nat} (hb:b≤s.size) (hk:a+k<b):bt (s.extract a b) k=bt s (a+k):=by
 have h1:k<(s.extract a b).size:=by rw[da hb];omega
 rw[bg h1,bg (show a+k<s.size by omega)]
 rw[ByteArray.getElem_extract]
theorem qL {s:ByteArray} {a b c d:Nat} (_hb:b≤s.size) (hd:a+d≤b):(s.extract a b).extract c d=s.extract (a+c) (a+d):=by
 rw[ByteArray.extract_extract]
 congr 1
 omega
theorem E9 {s:ByteArray} {x y:Nat} (h:bt s y=59) (hx:x≤y) (hy:y<s.size):s.extract x y++⟨#[59]⟩=s.extract x (y+1):=by
 have hb:s[y]=59:=by
  rw[bg hy] at h
  exact UInt8.toNat_inj.mp (by show s[y].toNat=59;omega)
 apply ByteArray.ext
 apply Array.toList_inj.mp
 rw[ByteArray.data_append,Array.toList_append,Lib.extract_data,Lib.extract_data]
 rw[show y+1 - x=(y - x)+1 by omega,List.take_succ_eq_append_getElem (by simp;have:s.data.size=s.size:=rfl;omega)]
 congr 1
 simp only[List.getElem_drop,Array.getElem_toList,show x+(y - x)=y by omega]
 show [59]=[s[y]]
 rw[hb]
theorem mh {s:ByteArray} {a b:Int}:∀ (n f i:Nat),f≤i→∀ p∈d8 s a b n f i,f≤p.1∧p.1≤p.2∧p.2<i+n
 |0,_,_,_,p,hp=>by simp[d8] at hp
 |n+1,f,i,hf,p,hp=>by
  rw[d8] at hp
  split at hp
  ·rcases List.mem_cons.mp hp with rfl|hp
   ·exact⟨Nat.le_refl _,hf,by simp⟩
   ·have:=mh n (i+1) (i+1) (Nat.le_refl _) p hp
    omega
  ·have:=mh n f (i+1) (by omega) p hp
   omega
theorem ko {s:ByteArray} {a b:Int} {c d:Nat} (hd:d≤s.size):∀ (n f i:Nat),c+i+n≤d→d8 (s.extract c d) a b n f i=(d8 s a b n (c+f) (c+i)).map fun p=>(p.1 - c,p.2 - c)
 |0,_,_,_=>rfl
 |n+1,f,i,h=>by
  rw[d8,d8,iY hd (by omega)]
  split
  ·rw[ko hd n (i+1) (i+1) (by omega)]
   simp only[List.map_cons]
   rw[show c+f - c=f by omega,show c+i - c=i by omega,show c+(i+1)=c+i+1 by omega]
  ·rw[ko hd n f (i+1) (by omega),show c+(i+1)=c+i+1 by omega]
theorem p8 {s:ByteArray} {a b:Int} {c d:Nat} (hd:d≤s.size) (hc:c≤d):lI (s.extract c d) (d8 (s.extract c d) a b (s.extract c d).size 0 0)=lI s (d8 s a b (d - c) c c):=by
 rw[da hd,ko hd _ _ _ (by omega)]
 unfold lI
 rw[List.map_map]
 apply List.map_congr_left
 intro p hp
 have:=mh _ _ _ (Nat.le_refl _) p hp
 simp only[Function.comp]
 rw[qL hd (by omega),show c+(p.1 - c)=p.1 by omega,show c+(p.2 - c)=p.2 by omega]
theorem sd {s:ByteArray} {a b:Int} {c d:Nat} (hd:d≤s.size) (hc:c≤d):(d8 (s.extract c d) a b (s.extract c d).size 0 0).length=(d8 s a b (d - c) c c).length:=by
 rw[da hd,ko hd _ _ _ (by omega),List.length_map]
 simp
def dJ (s:ByteArray) (L:List Nat):List Value:=L.map fun p=>.string (s.extract p (p+aG s p))
def gI (s:ByteArray) (L:List Nat):List Value:=L.map fun p=>.string (s.extract p (p+aT s p))
theorem Ea (s:ByteArray) (L:List Nat):lI s (L.map fun p=>(p,p+aG s p))=dJ s L:=by unfold lI dJ;rw[List.map_map];rfl
theorem EH (s:ByteArray) (L:List Nat):lI s (L.map fun p=>(p,p+aT s p))=gI s L:=by unfold lI gI;rw[List.map_map];rfl
def fX (w:World) (B:Nat) (s:ByteArray):List ax→List Value→Prop
 |[],xs=>xs=[]
 |r::R,xs=>∃ a1 m1 c1 a2 m2 c2 ys,xs=.int .i64 (bt s r.1 - 48)::.slice a1 m1 c1::.slice a2 m2 c2::ys∧
   w.ownsRow B 9 1 (.slice a1 m1 c1) r.2.1.length (dJ s r.2.1)∧w.ownsRow B 9 1 (.slice a2 m2 c2) r.2.2.length (gI s r.2.2)∧fX w B s R ys
theorem oF {w:World} {B:Nat} {s:ByteArray} {i:Nat} {L K:List Nat} {a1:Option Addr} {m1 c1:Nat} {a2:Option Addr} {m2 c2:Nat}
  (h1:w.ownsRow B 9 1 (.slice a1 m1 c1) L.length (dJ s L)) (h2:w.ownsRow B 9 1 (.slice a2 m2 c2) K.length (gI s K)) :
  ∀ (R:List ax) (xs:List Value),fX w B s R xs→fX w B s (R++[(i,L,K)]) (xs++[.int .i64 (bt s i - 48),.slice a1 m1 c1,.slice a2 m2 c2])
 |[],xs,h=>by
  have h:xs=[]:=h
  subst h
  exact⟨a1,m1,c1,a2,m2,c2,[],rfl,h1,h2,rfl⟩
 |r::R,xs,h=>by
  obtain⟨b1,n1,d1,b2,n2,d2,ys,rfl,k1,k2,k3⟩:=h
  exact⟨b1,n1,d1,b2,n2,d2,ys++_,rfl,k1,k2,oF h1 h2 R ys k3⟩
theorem gY {w w':World} {B:Nat} {s:ByteArray} {row:Option Nat} (hg:w.grownBy w' row)
  (hrow:∀ g,row=some g→∃ cs t,w.heap[g]?=some (.cells cs t (0,0))∧9≠t):∀ (R:List ax) (xs:List Value),fX w B s R xs→fX w' B s R xs
 |[],_,h=>h
 |r::R,xs,h=>by
  obtain⟨b1,n1,d1,b2,n2,d2,ys,rfl,k1,k2,k3⟩:=h
  exact⟨b1,n1,d1,b2,n2,d2,ys,rfl,aq k1 hg hrow,aq k2 hg hrow,gY hg hrow R ys k3⟩
theorem iD {w:World} {B:Nat} {s:ByteArray}:∀ (R:List ax) (xs:List Value),fX w B s R xs→∀ (k:Nat) (hk:k<R.length),∃ a1 m1 c1 a2 m2 c2,xs[k*3]?=some (.int .i64 (bt s R[k].1 - 48))∧xs[k*3+1]?=some (.slice a1 m1 c1)∧xs[k*3+2]?=some (.slice a2 m2 c2)∧
  w.ownsRow B 9 1 (.slice a1 m1 c1) R[k].2.1.length (dJ s R[k].2.1)∧w.ownsRow B 9 1 (.slice a2 m2 c2) R[k].2.2.length (gI s R[k].2.2)
 |r::R,xs,h,0,_=>by
  obtain⟨b1,n1,d1,b2,n2,d2,ys,rfl,k1,k2,k3⟩:=h
  exact⟨b1,n1,d1,b2,n2,d2,rfl,rfl,rfl,k1,k2⟩
 |r::R,xs,h,k+1,hk=>by
  obtain⟨b1,n1,d1,b2,n2,d2,ys,rfl,k1,k2,k3⟩:=h
  obtain⟨a1,m1,c1,a2,m2,c2,e1,e2,e3,e4,e5⟩:=iD R ys k3 k (by simpa using hk)
  have f1:(k+1)*3=k*3+1+1+1:=by omega
  rw[f1]
  exact⟨a1,m1,c1,a2,m2,c2,by simpa using e1,by simpa using e2,by simpa using e3,by simpa using e4,by simpa using e5⟩
theorem sx {w:World} {base:Nat} {e t:TypeId} {size:Nat} {v:Value} {n:Nat} {xs:List Value} (h:w.ownsRow base e size v n xs) (ht:t≠e):∀ g,v.ownBlock=some g→∃ cs t',w.heap[g]?=some (.cells cs t' (0,0))∧t≠t':=by
 intro g hg
 obtain⟨cs,hcs⟩:=fu h g hg
 exact⟨cs,_,hcs,ht⟩
def jp (w:World) (B:Nat) (s:ByteArray) (v:Value) (R:List ax):Prop:=∃ xs,w.ownsRow B 155 3 v R.length xs∧fX w B s R xs
theorem Tryz.info155:(Tryz.prog.info? 155).map (fun i=>(i.zero,i.size,i.bytes))=some (some (.agg #[.int .i64 0,.slice none 0 0,.slice none 0 0]),3,56):=by kernel_rfl
theorem zx (s:ByteArray) (R:List ax) (w:World) (hs:s.size≤400) (hR:kJ s 0 R s.size true) :
  Calls Tryz.prog 77 #[.string s] w fun e w'=>∃ v,e=.returned v∧jp w' w.heap.size s v R∧w.grownBy w' none:=by
 obtain⟨hcut,hall⟩:=te hR rfl
 have hlen:=pb hR
 rw[Nat.sub_zero] at hcut
 have HALL:=af hall
 obtain⟨i0,hi0,hz0,hz1,hz2⟩:=info_parts Tryz.info155
 have HC:=af (tw s 59 59 w (by omega) (by omega) (by omega))
 rw[hcut] at HC
 clear hcut hall hR
 go_enter Tryz.func77,Tryz.ntmps77
 go_wp2_with fail
 go_at_call 106
 refine HC.out.mono ?_
 rintro e w0 ⟨v0,rfl,hown0,hg0⟩
 rw[List.length_map] at hown0
 obtain⟨a0,m0,k0,rfl⟩:=an hown0
 have e0:=ar hown0
 subst e0
 clear HC
 go_wp2_with fail
 go_loopw [3,5] (fun v t wr=>∃ (k:Nat) (xs:List Value),k≤R.length∧t=.int .i64 k∧wr.ownsRow w.heap.size 155 3 v (R.take k).length xs∧fX wr w.heap.size s (R.take k) xs∧wr.ownsRow w.heap.size 9 1 (.slice a0 R.length k0) R.length (lI s (R.map fun r=>(r.1,bN s r.2.2)))∧w.grownBy wr none) (fun _ t _=>R.length - (intOf t).toNat)
 case atStart=>exact⟨0,[],Nat.zero_le _,rfl,World.ownsRow_nil _ _ _ _,rfl,hown0,hg0⟩
 case round=>
  clear hown0 hg0
  obtain⟨k,xs,hk,rfl,hown,hpar,hown0,hg⟩:=hrel
  have HP:=af hpar
  clear hpar
  by_cases hlt:k<R.length
  ·have hok:=HALL.out R[k] (List.getElem_mem hlt)
   obtain⟨g,rfl,_,hgb,hgl,hcell⟩:=aC hown0 (by omega)
   have hce:wr.cell? ⟨g,k,none⟩=some (.string (s.extract R[k].1 (bN s R[k].2.2))):=hcell k _ (by simp[lI,hlt])
   clear hcell
   obtain⟨T,hT⟩:∃ T,T=R[k]:=⟨_,rfl⟩
   rw[←hT] at hce hok
   have HT:=af hT
   clear hT
   obtain⟨i,L,K⟩:=T
   have hcE:=mP hok.conds rfl
   have haE:=mx hok.acts rfl
   have b1:i+2≤cW s L:=hcE.2.2.2.2.2
   have b2:cW s L+1≤bN s K:=haE.2.2.2.2.1
   have b3:bN s K<s.size:=haE.2.2.2.2.2
   have HOK:=af hok
   have HCE:=af hcE
   have HAE:=af haE
   clear hok hcE haE
   change wr.cell? ⟨g,k,none⟩=some (.string (s.extract i (bN s K))) at hce
   obtain⟨u,hu⟩:∃ u,u=s.extract i (bN s K):=⟨_,rfl⟩
   rw[←hu] at hce
   obtain⟨N,hN⟩:∃ N,N=cW s L - i:=⟨_,rfl⟩
   have husz:u.size=bN s K - i:=by rw[hu,da (by omega)]
   have hub:∀ n (h:n<u.size),(u[n].toNat:Int)=bt s (i+n):=by
    intro n h
    rw[←bg h,hu,iY (by omega) (by omega)]
   have u1:N+1≤u.size:=by omega
   have u2:u.size≤400:=by omega
   have u3:2≤N:=by omega
   have u0:0<u.size:=by omega
   have hx1:u.extract 2 (N+1)=s.extract (i+2) (cW s L+1):=by rw[hu,qL (by omega) (by omega),show i+(N+1)=cW s L+1 by omega]
   have hx2:u.extract (N+1) u.size++⟨#[59]⟩=s.extract (cW s L+1) (bN s K+1):=by
    rw[husz,hu,qL (by omega) (by omega),show i+(N+1)=cW s L+1 by omega,show i+(bN s K - i)=bN s K by omega,E9 HAE.out.2.2.1 (by omega) (by omega)]
   have HC1:Hid (∀ W:World,Calls Tryz.prog 106 #[.string (u.extract 2 (N+1)),.int .u8 44,.int .u8 62] W fun e w'=>∃ v,e=.returned v∧w'.ownsRow W.heap.size 9 1 v L.length (dJ s L)∧W.grownBy w' none):=af (by
    intro W
    have:=tw (u.extract 2 (N+1)) 44 62 W (by rw[hx1,da (by omega)];omega) (by omega) (by omega)
    rw[hx1,p8 (by omega) (by omega),sd (by omega) (by omega),EI HOK.out.conds rfl,Ea,List.length_map] at this
    rw[hx1]
    exact this)
   have HC2:Hid (∀ W:World,Calls Tryz.prog 106 #[.string (u.extract (N+1) u.size++⟨#[59]⟩),.int .u8 44,.int .u8 59] W fun e w'=>∃ v,e=.returned v∧w'.ownsRow W.heap.size 9 1 v K.length (gI s K)∧W.grownBy w' none):=af (by
    intro W
    have:=tw (u.extract (N+1) u.size++⟨#[59]⟩) 44 59 W (by rw[hx2,da (by omega)];omega) (by omega) (by omega)
    rw[hx2,p8 (by omega) (by omega),sd (by omega) (by omega),EP HOK.out.acts rfl,EH,List.length_map] at this
    rw[hx2]
    exact this)
   have hd0:48≤((u[0]'u0).toNat:Int)∧((u[0]'u0).toNat:Int)≤57:=by
    rw[hub 0 u0]
    simpa [bM] using HOK.out.dig
   have HW:Hid (((u[0]'u0).toNat:Int)=bt s i):=af (hub 0 u0)
   have HNO:Hid (∀ n (h:n<N) (h':n<u.size),(((u[n]'h').toNat:Int) != 62)=true):=af (by
    intro n h h'
    have:=HOK.out.no62 (i+n) (by omega) (by show i+n<cW s L;omega)
    rw[hub n h']
    simpa using this)
   have HYES:Hid (((u[N]'u1).toNat:Int)=62):=af (by rw[hub N u1,show i+N=cW s L by omega];exact HCE.out.2.2.1)
   have hsz:=hg.size
   have HU2:Hid ((u.extract (N+1) u.size).size≤400):=af (by rw[da (Nat.le_refl _)];omega)
   clear hx1 hx2 hub husz hu hN
   go_wp2_with fail
   go_loop [6] (fun t=>∃ n:Nat,n≤N∧t=.int .i64 n) (fun t=>N - (intOf t).toNat)
   case atStart=>exact⟨0,Nat.zero_le _,rfl⟩
   case round=>
    obtain⟨n,hn,rfl⟩:=hrel
    by_cases hnl:n<N
    ·have hn1:n<u.size:=by omega
     have hq:=HNO.out n hnl hn1
     go_wp2
     go_round
     case rel=>exact⟨n+1,by omega,by go_num⟩
     case measure=>simp[intOf];omega
    ·have hnN:n=N:=by omega
     subst hnN
     have hq:(((u[n]'u1).toNat:Int) != 62)=false:=by simp[HYES.out]
     clear hnl
     go_wp2_with fail
     go_at_call 106
     refine (HC1.out _).mono ?_
     rintro e w1 ⟨v1,rfl,ho1,hg1⟩
     obtain⟨a1,m1,k1,rfl⟩:=an ho1
     have hce1:=hg1.cell hce (by simp)
     have hU2:=HU2.out
     have hU3:(⟨#[59]⟩:ByteArray).size=1:=rfl
     go_wp2_with fail
     go_at_call 106
     refine (HC2.out _).mono ?_
     rintro e w2 ⟨v2,rfl,ho2,hg2⟩
     obtain⟨a2,m2,k2,rfl⟩:=an ho2
     have hce2:=hg2.cell hce1 (by simp)
     have hg12:=ae hg1 hg2
     have hsz1:=hg1.size
     have hsz2:=hg2.size
     have hown2:=aq hown hg12 (fun g hg=>by cases hg)
     clear hU2 hU3
     go_wp2_with (first|(at_builtin;refine wpList_append_own _ rfl (.tmp 43) (.tmp 54) 35 rfl (w.heap.size) 155 i0 (.agg #[.int .i64 0,.slice none 0 0,.slice none 0 0]) 3 56 Tryz.underlying35 hi0 hz0 hz1 hz2 rfl (by decide) _ _ _ rfl (hown2.alloc _) _ 1 1 [.int .i64 (((u[0]'u0).toNat:Int) - 48),.slice a1 m1 k1,.slice a2 m2 k2] rfl rfl ?c1 ?c2 ?c3 ?c4 ?c5 ?_))
     case c1=>intro j u hj;exact bj hj
     case c2=>intro u hu;simp at hu;rcases hu with h|h|h <;> subst h <;> rfl
     case c3=>have:(R.take k).length≤R.length:=by simp;omega
              unfold maxLen;omega
     case c4=>have:(R.take k).length≤R.length:=by simp;omega
              omega
     case c5=>simp;omega
     ·intro v' w3 hown3 hg3 _
      have ht:R.take (k+1)=R.take k++[(i,L,K)]:=by rw[List.take_succ_eq_append_getElem hlt,HT.out]
      have o1:=bO (aq ho1 hg2 (fun g hg=>by cases hg)) hsz
      have o2:=bO (base':=w.heap.size) ho2 (by omega)
      have HP2:=oF (i:=i) o1 o2 (R.take k) xs (gY hg12 (fun g hg=>by cases hg) _ _ HP.out)
      rw[←ht,←HW.out] at HP2
      have HP3:Hid (fX w3 w.heap.size s (R.take (k+1)) _):=af (gY hg3 (sx (hown2.alloc _) (by decide)) _ _ (gY (World.grownBy_alloc w2 _ none) (fun g hg=>by cases hg) _ _ HP2))
      have hown0':=aq ((aq hown0 hg12 (fun g hg=>by cases hg)).alloc _) hg3 (sx (hown2.alloc _) (by decide))
      have hg3':w.grownBy w3 none:=aK (ab (ae hg hg12) _) hg3 (fun g hg=>(hown.lt g hg).1)
      have hown3':w3.ownsRow w.heap.size 155 3 v' (R.take (k+1)).length (xs++[.int .i64 (((u[0]'u0).toNat:Int) - 48),.slice a1 m1 k1,.slice a2 m2 k2]):=by
       have hl:(R.take (k+1)).length=k+1:=by simp;omega
       rw[hl];simpa [Nat.min_eq_left hk] using hown3
      clear hown3 hg3 hown2 hown hg2 hg1 hg12 ho1 ho2 hce hce1 hce2 hown0 hg o1 o2 HP2 ht
      go_wp2
      go_roundw
      case rel=>exact⟨k+1,_,by omega,by go_num,hown3',HP3.out,hown0',hg3'⟩
      case measure=>simp[intOf];omega
  ·go_wp2
   go_ret
   have e:R.take k=R:=List.take_of_length_le (by omega)
   rw[e] at hown HP
   exact⟨_,rfl,⟨xs,hown,HP.out⟩,hg⟩
end Go.Proofs.YthlhbjnkohinmaaGreat
