import Derived.Test.YthlhbjnkohinmaaGreatP41
import Derived.Test.YthlhbjnkohinmaaGreatP40
import Derived.Test.YthlhbjnkohinmaaGreatP39
import Derived.Test.YthlhbjnkohinmaaGreatP15
import Derived.Test.YthlhbjnkohinmaaGreatP05
import Derived.Test.YthlhbjnkohinmaaGreatP38
import Derived.Test.YthlhbjnkohinmaaGreatP11
namespace Go.Proofs.YthlhbjnkohinmaaGreat
set_option maxRecDepth 100000
set_option maxHeartbeats 8000000
open Go.RowKit
theorem zq (x:Nat) (X:ap) (kv:Nat→Value) (n fuel:Int) (w:World) (h:jq w x X kv) (hf:aL X n=none) :
  Calls Tryz.prog 33 #[.pointer (some ⟨x,0,none⟩),.int .i64 n,.int .i64 fuel] w fun e w'=>e=.returned (.tuple #[.int .i64 0,.int .i64 0,.int .i64 6])∧w.grownBy w' none:=by
 have HF:=af (eX x X n w h.ses)
 rw[hf] at HF
 clear h hf
 go_enter Tryz.func33,Tryz.ntmps33
 go_wp2_with fail
 go_at_call 41
 refine HF.out.mono ?_
 rintro e w' ⟨rfl,rfl⟩
 simp only[dm]
 go_wp2
 go_ret3
 exact⟨rfl,ag _ _⟩
theorem Ab (x:Nat) (X:ap) (kv:Nat→Value) (n fuel:Int) (k:Nat) (w:World) (h:jq w x X kv) (hf:aL X n=some k) (hfu:fuel<0∨99<fuel) :
  Calls Tryz.prog 33 #[.pointer (some ⟨x,0,none⟩),.int .i64 n,.int .i64 fuel] w fun e w'=>e=.returned (.tuple #[.int .i64 0,.int .i64 0,.int .i64 9])∧w.grownBy w' none:=by
 have HF:=af (eX x X n w h.ses)
 rw[hf] at HF
 clear h hf
 by_cases h0:fuel<0
 ·clear hfu
  go_enter Tryz.func33,Tryz.ntmps33
  go_wp2_with fail
  go_at_call 41
  refine HF.out.mono ?_
  rintro e w' ⟨rfl,rfl⟩
  simp only[dm]
  go_wp2_with fail
  go_ret3
  exact⟨rfl,ag _ _⟩
 ·have h1:99<fuel:=by omega
  have h2:0≤fuel:=by omega
  clear hfu h0
  go_enter Tryz.func33,Tryz.ntmps33
  go_wp2_with fail
  go_at_call 41
  refine HF.out.mono ?_
  rintro e w' ⟨rfl,rfl⟩
  simp only[dm]
  go_wp2_with fail
  go_ret3
  exact⟨rfl,ag _ _⟩
def ij (Φ:World→Prop):eV:=fun w f=>(∀ b∈f,b<w.heap.size)∧∀ w':World,(∀ b∈f,w'.heap[b]?=w.heap[b]?)→Φ w'
theorem ij.framed (Φ:World→Prop):bS (ij Φ):=by
 rintro S w w' f ⟨h1,h2⟩ hf hs
 refine⟨fun b hb=>Nat.lt_of_lt_of_le (h1 b hb) hf.size,fun w2 h=>h2 w2 (fun b hb=>(h b hb).trans (hf.block b (h1 b hb) (hs b hb)))⟩
theorem ij.within (Φ:World→Prop):bX (ij Φ):=fun h g hg=>h.1 g hg
theorem ij.now {Φ:World→Prop} {w:World} {f:List Nat} (h:ij Φ w f):Φ w:=h.2 w (fun _ _=>rfl)
def D5 (r:Eh):eV:=ij fun w=>bQ w 0 r.2.1 r.1.1 r.2.2
def mr (X:ap):List Nat:=(List.range 8).filterMap fun k=>(X.ses k).mks
theorem gw {X:ap} {g:Nat}:g∈mr X↔∃ k,k<8∧(X.ses k).mks=some g:=by
 unfold mr
 rw[List.mem_filterMap]
 constructor
 ·rintro⟨k,hk,h⟩
  exact⟨k,by simpa using hk,h⟩
 ·rintro⟨k,hk,h⟩
  exact⟨k,by simpa using hk,h⟩
theorem jC.fr {m:Option Nat} {fm:Nat→Option Int} {S:List Nat} {w w':World} (h:jC m fm w) (hf:Fr S w w') (hs:∀ g,m=some g→g∉S):jC m fm w':=by
 cases m with
 |none=>exact h
 |some g=>
  obtain⟨Z,h1,h2⟩:=h
  exact⟨Z,(hf.block g (lt_of_block h1) (hs g rfl)).trans h1,h2⟩
theorem jC.lt {g:Nat} {fm:Nat→Option Int} {w:World} (h:jC (some g) fm w):g<w.heap.size:=by
 obtain⟨Z,h1,_⟩:=h
 exact lt_of_block h1
def lX (X:ap) (F:dN):eV:=fun w f=>(∀ k,k<8→jC (X.ses k).mks (F k) w)∧f=mr X
theorem lX.framed (X:ap) (F:dN):bS (lX X F):=by
 rintro S w w' f ⟨h1,rfl⟩ hf hs
 exact⟨fun k hk=>(h1 k hk).fr hf (fun g hg=>hs g (gw.mpr ⟨k,hk,hg⟩)),rfl⟩
theorem lX.within (X:ap) (F:dN):bX (lX X F):=by
 rintro w f ⟨h1,rfl⟩ g hg
 obtain⟨k,hk,e⟩:=gw.mp hg
 have:=h1 k hk
 rw[e] at this
 exact this.lt
def kg (x:Nat) (X:ap) (F:dN):eV:=bY (aV x X) (bY (lX X F) (D5 X.src))
theorem kg.framed (x:Nat) (X:ap) (F:dN):bS (kg x X F):=bY.framed (aV.framed _ _) (bY.framed (lX.framed _ _) (ij.framed _))
theorem kg.within (x:Nat) (X:ap) (F:dN):bX (kg x X F):=bY.within (aV.within _ _) (bY.within (lX.within _ _) (ij.within _))
def bh (x:Nat) (X:ap) (F:dN):eV:=fun w f=>∃ X0,kg x X0 F w f∧X0.plain=X
theorem bh.framed (x:Nat) (X:ap) (F:dN):bS (bh x X F):=by
 rintro S w w' f ⟨X0,h,e⟩ hf hs
 exact⟨X0,kg.framed _ _ _ h hf hs,e⟩
theorem bh.within (x:Nat) (X:ap) (F:dN):bX (bh x X F):=by
 rintro w f ⟨X0,h,e⟩
 exact kg.within _ _ _ h
theorem lS {α β:Type} {f g:α→Option β}:∀ {l:List α},(∀ a∈l,g a=f a∨g a=none)→(l.filterMap g).Sublist (l.filterMap f)
 |[],_=>List.Sublist.refl _
 |a::l,h=>by
  have ih:=lS (f:=f) (g:=g) (l:=l) (fun b hb=>h b (by simp[hb]))
  rcases h a (by simp) with e|e
  ·rw[List.filterMap_cons,List.filterMap_cons,e]
   cases f a with
   |none=>exact ih
   |some b=>exact ih.cons_cons b
  ·rw[List.filterMap_cons,List.filterMap_cons,e]
   cases f a with
   |none=>exact ih
   |some b=>exact ih.cons b
theorem kg.open {x:Nat} {X:ap} {F:dN} {w:World} {f:List Nat} (h:kg x X F w f) (hn:f.Nodup) :
  ∃ f0,aV x X w f0∧f0.Nodup∧(∀ y∈f0,y∈f)∧∀ X' w',jD X X'→X'.src=X.src→cL (aV x X') f0 w w'→cL (kg x X' (cy X X' F)) f w w':=by
 have hwi:=kg.within _ _ _ h
 obtain⟨f0,f1,h0,⟨f2,f3,⟨h2,rfl⟩,h3,rfl⟩,rfl⟩:=h
 rw[List.nodup_append] at hn
 obtain⟨n0,n1,d01⟩:=hn
 rw[List.nodup_append] at n1
 obtain⟨n2,n3,d23⟩:=n1
 refine⟨f0,h0,n0,fun y hy=>List.mem_append_left _ hy,fun X' w' hm hs ht=>?_⟩
 obtain⟨f0',a0,n0',s0,r0⟩:=ht
 have hsub:(mr X').Sublist (mr X):=lS (fun k hk=>by
  have hk8:k<8:=by simpa using hk
  by_cases e:(X'.ses k).num=(X.ses k).num
  ·exact .inl ((hm k hk8).1 e)
  ·exact .inr ((hm k hk8).2 e))
 have hin:∀ y∈mr X'++f3,y∈mr X++f3:=fun y hy=>by
  rcases List.mem_append.mp hy with hy|hy
  ·exact List.mem_append_left _ (hsub.subset hy)
  ·exact List.mem_append_right _ hy
 refine⟨f0'++(mr X'++f3),⟨f0',_,a0,⟨_,f3,⟨fun k hk=>?_,rfl⟩,?_,rfl⟩,rfl⟩,?_,?_,?_⟩
 ·unfold cy
  by_cases e:(X'.ses k).num=(X.ses k).num
  ·rw[if_pos e,(hm k hk).1 e]
   exact (h2 k hk).fr r0 (fun g hg hf=>d01 g hf g (List.mem_append_left _ (gw.mpr ⟨k,hk,hg⟩)) rfl)
  ·rw[if_neg e,(hm k hk).2 e]
   intro p _
   rfl
 ·rw[hs]
  exact ij.framed _ h3 r0 (fun g hg hf=>d01 g hf g (List.mem_append_right _ hg) rfl)
 ·rw[List.nodup_append]
  refine⟨n0',?_,?_⟩
  ·rw[List.nodup_append]
   exact⟨n2.sublist hsub,n3,fun a ha b hb=>d23 a (hsub.subset ha) b hb⟩
  ·intro a ha b hb e
   subst e
   have hb':=hin a hb
   rcases s0 a ha with h|h
   ·exact d01 a h a hb' rfl
   ·have:=hwi a (List.mem_append_right _ hb')
    omega
 ·intro y hy
  rcases List.mem_append.mp hy with hy|hy
  ·rcases s0 y hy with h|h
   ·exact .inl (List.mem_append_left _ h)
   ·exact .inr h
  ·exact .inl (List.mem_append_right _ (hin y hy))
 ·exact r0.mono (fun y hy=>.inl (List.mem_append_left _ hy))
theorem bh.call {x:Nat} {X X':ap} {F:dN} {w:World} {f:List Nat} {fn:Nat} {args:Array Value} {v:Value} (Y:ap→ap) (h:bh x X F w f) (hn:f.Nodup)
  (hY:∀ X0,X0.plain=X→(Y X0).plain=X'∧(Y X0).src=X0.src∧jD X0 (Y X0))
  (c:∀ X0 f0,X0.plain=X→aV x X0 w f0→f0.Nodup→Calls Tryz.prog fn args w fun e w'=>e=.returned v∧cL (aV x (Y X0)) f0 w w') :
  Calls Tryz.prog fn args w fun e w'=>e=.returned v∧cL (bh x X' (cy X X' F)) f w w':=by
 obtain⟨X0,h0,e0⟩:=h
 obtain⟨p1,p2,p3⟩:=hY X0 e0
 obtain⟨f0,a0,nf0,_,hcl⟩:=h0.open hn
 refine (c X0 f0 e0 a0 nf0).mono ?_
 rintro e w' ⟨rfl,ht⟩
 refine⟨rfl,?_⟩
 obtain⟨f',a,n,s,r⟩:=hcl _ _ p3 p2 ht
 subst e0
 subst p1
 exact⟨f',⟨_,a,rfl⟩,n,s,r⟩
theorem bh.see {x:Nat} {X:ap} {F:dN} {w:World} {f:List Nat} {fn:Nat} {args:Array Value} {v:Value} (h:bh x X F w f) (hn:f.Nodup)
  (c:∀ X0 f0,X0.plain=X→kg x X0 F w f→aV x X0 w f0→Calls Tryz.prog fn args w fun e w'=>e=.returned v∧Fr [] w w') :
  Calls Tryz.prog fn args w fun e w'=>e=.returned v∧cL (bh x X F) f w w':=by
 obtain⟨X0,h0,e0⟩:=h
 obtain⟨f0,a0,_,_,_⟩:=h0.open hn
 refine (c X0 f0 e0 h0 a0).mono ?_
 rintro e w' ⟨rfl,r⟩
 exact⟨rfl,f,bh.framed _ _ _ ⟨X0,h0,e0⟩ r (by simp),hn,fun _ hy=>.inl hy,r.mono (fun k hk=>by cases hk)⟩
def s0:ByteArray:=⟨#[53,58,97,120,121,62,43,98,120,121,59]⟩
theorem w9 (X:ap):(a8 X).2.hist=X.hist:=by unfold a8;cases ba X 0 <;> rfl
theorem A8 (X:ap) (n:Int) (s:ByteArray):(cj X n s).2.hist=X.hist:=by
 unfold cj
 cases aL X n with
 |none=>rfl
 |some k=>cases eP s <;> rfl
theorem tQ (X:ap) (n:Int) (s:ByteArray):(aY X n s).2.hist=X.hist:=by
 unfold aY
 cases aL X n with
 |none=>rfl
 |some k=>cases eC s <;> rfl
theorem vA (X:ap) (n:Int):(aX X n).2.hist=X.hist:=by
 unfold aX
 cases aL X n <;> rfl
theorem Cx (x:Nat) (X:ap) (f:List Nat) (w:World) (h:aV x X w f) (hn:f.Nodup) (ho:0≤X.opened∧X.opened<9223372036854775807) :
  Calls Tryz.prog 19 #[.pointer (some ⟨x,0,none⟩)] w fun e w'=>e=.returned (.tuple #[.int .i64 (a8 X).1.1,.int .i64 (a8 X).1.2])∧cL (aV x (a8 X).2) f w w':=by
 obtain⟨kv,hk⟩:=h
 refine (Ba x X kv w hk.1 ho).mono ?_
 rintro e w' ⟨rfl,hp⟩
 exact⟨rfl,hp.to hk hn (w9 X)⟩
theorem Eu (x:Nat) (X:ap) (f:List Nat) (n:Int) (s:ByteArray) (w:World) (h:aV x X w f) (hn:f.Nodup) (hs63:s.size<9223372036854775808) (hm:∀ k,aL X n=some k→(X.ses k).more) :
  Calls Tryz.prog 21 #[.pointer (some ⟨x,0,none⟩),.int .i64 n,.string s] w fun e w'=>e=.returned (.int .i64 (cj X n s).1)∧cL (aV x (cj X n s).2) f w w':=by
 obtain⟨kv,hk⟩:=h
 refine (Cc x X kv n s w hk.1 hs63 hm).mono ?_
 rintro e w' ⟨rfl,hp⟩
 exact⟨rfl,hp.to hk hn (A8 X n s)⟩
theorem Ak (x:Nat) (X:ap) (f:List Nat) (n:Int) (s:ByteArray) (w:World) (h:aV x X w f) (hn:f.Nodup) (hs63:s.size<9223372036854775808) (hm:∀ k,aL X n=some k→(X.ses k).more) :
  Calls Tryz.prog 23 #[.pointer (some ⟨x,0,none⟩),.int .i64 n,.string s] w fun e w'=>e=.returned (.int .i64 (aY X n s).1)∧cL (aV x (aY X n s).2) f w w':=by
 obtain⟨kv,hk⟩:=h
 refine (wK x X kv n s w hk.1 hs63 hm).mono ?_
 rintro e w' ⟨rfl,hp⟩
 exact⟨rfl,hp.to hk hn (tQ X n s)⟩
theorem AA (x:Nat) (X:ap) (f:List Nat) (n:Int) (w:World) (h:aV x X w f) (hn:f.Nodup) :
  Calls Tryz.prog 27 #[.pointer (some ⟨x,0,none⟩),.int .i64 n] w fun e w'=>e=.returned (.int .i64 (aX X n).1)∧cL (aV x (aX X n).2) f w w':=by
 obtain⟨kv,hk⟩:=h
 refine (xk x X kv n w hk.1).mono ?_
 rintro e w' ⟨rfl,hp⟩
 exact⟨rfl,hp.to hk hn (vA X n)⟩
theorem Cm (x:Nat) (X:ap) (f:List Nat) (n:Int) (w:World) (h:aV x X w f) (hl:∀ c,c<60→(X.hist c).length≤9223372036854775807) (hd:∀ k,aL X n=some k→EQ (jg X k)) :
  Calls Tryz.prog 25 #[.pointer (some ⟨x,0,none⟩),.int .i64 n] w fun e w'=>e=.returned (.tuple #[.string (fL X n).1,.int .i64 (fL X n).2])∧Fr [] w w':=by
 obtain⟨kv,hk⟩:=h
 refine (zJ x X kv n w hk.1 hk.rows hl hd).mono ?_
 rintro e w' ⟨rfl,hg⟩
 exact⟨rfl,aJ hg⟩
def Gf:ByteArray:=⟨#[97,51,55]⟩
def W1 (r:Eh):ap:=(a8 (X0 r)).2
def W2 (r:Eh):ap:=(cj (W1 r) 1 Gf).2
def W3 (r:Eh):ap:=(jL (W2 r) 1).2
theorem kg.rules {x:Nat} {X:ap} {F:dN} {w:World} {f:List Nat} (h:kg x X F w f):bQ w 0 X.src.2.1 X.src.1.1 X.src.2.2:=by
 obtain⟨f0,f1,_,⟨f2,f3,_,h3,_⟩,_⟩:=h
 exact h3.now
theorem Ca (x:Nat) (X:ap) (F:dN) (f:List Nat) (i:Nat) (w:World) (h:bh x X F w f) (hn:f.Nodup) (hg:eO i X) (hi:i≤100000000000000) :
  Calls Tryz.prog 19 #[.pointer (some ⟨x,0,none⟩)] w fun e w'=>e=.returned (.tuple #[.int .i64 (a8 X).1.1,.int .i64 (a8 X).1.2])∧cL (bh x (a8 X).2 (cy X (a8 X).2 F)) f w w':=by
 have ho:=hg.opened
 refine bh.call (fun X0=>(a8 X0).2) h hn (fun X0 e=>?_) (fun X0 f0 e a n=>?_)
 ·subst e
  obtain⟨_,h2,h3,h4⟩:=oH X0 ho.1
  exact⟨h2,h3,h4⟩
 ·subst e
  obtain⟨h1,_⟩:=oH X0 ho.1
  rw[←h1]
  exact Cx x X0 f0 w a n (by have:X0.plain.opened=X0.opened:=rfl
                   omega)
theorem E7 (x:Nat) (X:ap) (F:dN) (f:List Nat) (i:Nat) (n:Int) (s:ByteArray) (w:World) (h:bh x X F w f) (hn:f.Nodup) (hg:eO i X) (hi:i≤100000000000000) (hs63:s.size<9223372036854775808) :
  Calls Tryz.prog 21 #[.pointer (some ⟨x,0,none⟩),.int .i64 n,.string s] w fun e w'=>e=.returned (.int .i64 (cj X n s).1)∧cL (bh x (cj X n s).2 (cy X (cj X n s).2 F)) f w w':=by
 refine bh.call (fun X0=>(cj X0 n s).2) h hn (fun X0 e=>?_) (fun X0 f0 e a nd=>?_)
 ·subst e
  obtain⟨_,h2,h3,h4⟩:=pu X0 n s
  exact⟨h2,h3,h4⟩
 ·subst e
  obtain⟨h1,_⟩:=pu X0 n s
  rw[←h1]
  exact Eu x X0 f0 n s w a nd hs63 (fun k hf=>(eO.plain.mpr hg).mores hi hf)
theorem Af (x:Nat) (X:ap) (F:dN) (f:List Nat) (i:Nat) (n:Int) (s:ByteArray) (w:World) (h:bh x X F w f) (hn:f.Nodup) (hg:eO i X) (hi:i≤100000000000000) (hs63:s.size<9223372036854775808) :
  Calls Tryz.prog 23 #[.pointer (some ⟨x,0,none⟩),.int .i64 n,.string s] w fun e w'=>e=.returned (.int .i64 (aY X n s).1)∧cL (bh x (aY X n s).2 (cy X (aY X n s).2 F)) f w w':=by
 refine bh.call (fun X0=>(aY X0 n s).2) h hn (fun X0 e=>?_) (fun X0 f0 e a nd=>?_)
 ·subst e
  obtain⟨_,h2,h3,h4⟩:=nC X0 n s
  exact⟨h2,h3,h4⟩
 ·subst e
  obtain⟨h1,_⟩:=nC X0 n s
  rw[←h1]
  exact Ak x X0 f0 n s w a nd hs63 (fun k hf=>(eO.plain.mpr hg).mores hi hf)
theorem AO (x:Nat) (X:ap) (F:dN) (f:List Nat) (n:Int) (w:World) (h:bh x X F w f) (hn:f.Nodup) :
  Calls Tryz.prog 27 #[.pointer (some ⟨x,0,none⟩),.int .i64 n] w fun e w'=>e=.returned (.int .i64 (aX X n).1)∧cL (bh x (aX X n).2 (cy X (aX X n).2 F)) f w w':=by
 refine bh.call (fun X0=>(aX X0 n).2) h hn (fun X0 e=>?_) (fun X0 f0 e a nd=>?_)
 ·subst e
  obtain⟨_,h2,h3,h4⟩:=mG X0 n
  exact⟨h2,h3,h4⟩
 ·subst e
  obtain⟨h1,_⟩:=mG X0 n
  rw[←h1]
  exact AA x X0 f0 n w a nd
theorem wZ (x:Nat) (X:ap) (F:dN) (f:List Nat) (i:Nat) (n:Int) (w:World) (h:bh x X F w f) (hn:f.Nodup) (hg:eO i X) (hi:i≤100000000000000) :
  Calls Tryz.prog 29 #[.pointer (some ⟨x,0,none⟩),.int .i64 n] w fun e w'=>e=.returned (.tuple #[.int .i64 (bH X n).1.1,.int .i64 (bH X n).1.2])∧cL (bh x (bH X n).2 (cy X (bH X n).2 F)) f w w':=by
 refine bh.call (fun X0=>(bH X0 n).2) h hn (fun X0 e=>?_) (fun X0 f0 e a nd=>?_)
 ·subst e
  obtain⟨_,h2,h3,h4⟩:=gX X0 n
  exact⟨h2,h3,h4⟩
 ·subst e
  obtain⟨h1,_⟩:=gX X0 n
  rw[←h1]
  have hg0:=eO.plain.mpr hg
  have hl:=hg0.latest
  have hk:=hg0.keptN
  exact tg x X0 f0 n w a nd (by omega) (fun c hc=>by have:=hg0.len hc;omega) (by omega)
theorem AP (x:Nat) (X:ap) (F:dN) (f:List Nat) (i:Nat) (w:World) (h:bh x X F w f) (hn:f.Nodup) (hg:eO i X) (_hi:i≤100000000000000) :
  Calls Tryz.prog 36 #[.pointer (some ⟨x,0,none⟩)] w fun e w'=>e=.returned (.int .i64 (ch X).1)∧cL (bh x (ch X).2 (cy X (ch X).2 F)) f w w':=by
 refine bh.call (fun X0=>(ch X0).2) h hn (fun X0 e=>?_) (fun X0 f0 e a nd=>?_)
 ·subst e
  obtain⟨_,h2,h3,h4⟩:=mS X0
  exact⟨h2,h3,h4⟩
 ·subst e
  obtain⟨h1,_⟩:=mS X0
  rw[←h1]
  have hg0:=eO.plain.mpr hg
  have hk:=hg0.keptN
  exact pX x X0 f0 w a nd (fun c hc=>by have:=hg0.len hc;omega) (by omega)
theorem DU (x:Nat) (X:ap) (F:dN) (f:List Nat) (i:Nat) (w:World) (h:bh x X F w f) (hn:f.Nodup) (hg:eO i X) (_hi:i≤100000000000000) :
  Calls Tryz.prog 35 #[.pointer (some ⟨x,0,none⟩)] w fun e w'=>e=.returned (.int .i64 (keptN X 60:Nat))∧cL (bh x X F) f w w':=by
 refine bh.see h hn (fun X0 f0 e _ a=>?_)
 subst e
 have hg0:=eO.plain.mpr hg
 have hk:=hg0.keptN
 rw[fY]
 refine (zX x X0 f0 w a (by omega)).mono ?_
 rintro e w' ⟨rfl,rfl⟩
 exact⟨rfl,Fr.refl _ _⟩
theorem Ci (x:Nat) (X:ap) (F:dN) (f:List Nat) (i:Nat) (n:Int) (w:World) (h:bh x X F w f) (hn:f.Nodup) (hg:eO i X) (_hi:i≤100000000000000) :
  Calls Tryz.prog 25 #[.pointer (some ⟨x,0,none⟩),.int .i64 n] w fun e w'=>e=.returned (.tuple #[.string (fL X n).1,.int .i64 (fL X n).2])∧cL (bh x X F) f w w':=by
 refine bh.see h hn (fun X0 f0 e _ a=>?_)
 subst e
 have hg0:=eO.plain.mpr hg
 have hv:fL X0.plain n=fL X0 n:=rfl
 rw[hv]
 exact Cm x X0 f0 n w a (fun c hc=>by have:=hg0.len hc;omega) (fun k hf=>hg0.seen (ed hf).1)
def uM (X:ap) (F:dN) (n:Int):ByteArray×Int:=match aL X n with
 |none=>(ByteArray.empty,6)
 |some k=>(ez (bK (iZ (eh X.src.2.1 X.src.2.2)) (jv X.src.2.1 (fQ X k) X.src.2.2 (ww (F k)) X.src.2.2.length)),0)
theorem vd (x:Nat) (X:ap) (F:dN) (f:List Nat) (i:Nat) (n:Int) (w:World) (h:bh x X F w f) (hn:f.Nodup) (hg:eO i X) (_hi:i≤100000000000000) (hR:nG X.src.2.1 X.src.2.2) :
  Calls Tryz.prog 31 #[.pointer (some ⟨x,0,none⟩),.int .i64 n] w fun e w'=>e=.returned (.tuple #[.string (uM X F n).1,.int .i64 (uM X F n).2])∧cL (bh x X F) f w w':=by
 refine bh.see h hn (fun X0 f0 e hA a=>?_)
 subst e
 have hrl:=hA.rules
 have hg0:=eO.plain.mpr hg
 obtain⟨kv,hk⟩:=a
 unfold uM
 have e1:aL X0.plain n=aL X0 n:=rfl
 rw[e1]
 cases hf:aL X0 n with
 |none=>
  refine (qZ x X0 kv n w hk.1 hf).mono ?_
  rintro e w' ⟨rfl,r⟩
  exact⟨rfl,aJ r⟩
 |some k=>
  have hk8:=(ed hf).1
  have hM:jC (X0.ses k).mks (F k) w:=by
   obtain⟨_,_,_,⟨_,_,⟨h2,_⟩,_,_⟩,_⟩:=hA
   exact h2 k hk8
  have hcell:=(hk.1.ses k hk8).mks
  refine (rt x X0 kv n k X0.src.2.1 X0.src.2.2 X0.src.1.1 0 (ww (F k)) w hk.1 hk.rows (fun c hc=>by have:=hg0.len hc;omega) hf (hg0.seen hk8) rfl hrl hR.walk hR.nine (af (fun j hj ii W hii hW=>?_))).mono ?_
  ·obtain⟨a1,a2⟩:=iE (tD X0 k) j (hR.walk _ (List.getElem_mem hj)) ii hii
   have h9:=hR.nine
   have hj':j<X0.src.2.2.length:=hj
   have h9':X0.src.2.2.length≤9:=h9
   exact ug _ ii x (3+k*244+243) (X0.ses k).mks (F k) W (by omega) a1 (am hW hcell) (hM.grown hW)
  ·rintro e w' ⟨rfl,r⟩
   exact⟨rfl,aJ r⟩
end Go.Proofs.YthlhbjnkohinmaaGreat
