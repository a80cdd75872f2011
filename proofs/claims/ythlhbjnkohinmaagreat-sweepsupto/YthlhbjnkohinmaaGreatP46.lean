import Derived.Test.YthlhbjnkohinmaaGreatP45
import Derived.Test.YthlhbjnkohinmaaGreatP14
namespace Go.Proofs.YthlhbjnkohinmaaGreat
set_option maxRecDepth 100000
set_option maxHeartbeats 8000000
open Go.RowKit
theorem ku.rules {x:Nat}{X:ap}{F:dN}{w:World}{f:List Nat}(h:ku x X F w f):bP w 0 X.src.2.1 X.src.1.1 X.src.2.2:=by
 obtain⟨f0,f1,_,⟨f2,f3,_,h3,_⟩,_⟩:=h
 exact h3.now
theorem CR (x:Nat)(X:ap)(F:dN)(f:List Nat)(i:Nat)(w:World)(h:bg x X F w f)(hn:f.Nodup)(hg:eO i X)(hi:i≤100000000000000):
  Calls Tryz.prog 19 #[.pointer (some ⟨x,0,none⟩)] w fun e w'=>e=.returned (.tuple #[.int .i64 (aZ X).1.1,.int .i64 (aZ X).1.2])∧cM (bg x (aZ X).2 (cy X (aZ X).2 F)) f w w':=by
 have ho:=hg.opened
 refine bg.call (fun X0=>(aZ X0).2) h hn (fun X0 e=>?_) (fun X0 f0 e a n=>?_)
 ·subst e
  obtain⟨_,h2,h3,h4⟩:=ou X0 ho.1
  exact⟨h2,h3,h4⟩
 ·subst e
  obtain⟨h1,_⟩:=ou X0 ho.1
  rw[←h1]
  exact Dw x X0 f0 w a n (by have:X0.plain.opened=X0.opened:=rfl
                             omega)
theorem EC (x:Nat)(X:ap)(F:dN)(f:List Nat)(i:Nat)(n:Int)(s:ByteArray)(w:World)(h:bg x X F w f)(hn:f.Nodup)(hg:eO i X)(hi:i≤100000000000000)(hs63:s.size<9223372036854775808):
  Calls Tryz.prog 21 #[.pointer (some ⟨x,0,none⟩),.int .i64 n,.string s] w fun e w'=>e=.returned (.int .i64 (cg X n s).1)∧cM (bg x (cg X n s).2 (cy X (cg X n s).2 F)) f w w':=by
 refine bg.call (fun X0=>(cg X0 n s).2) h hn (fun X0 e=>?_) (fun X0 f0 e a nd=>?_)
 ·subst e
  obtain⟨_,h2,h3,h4⟩:=qC X0 n s
  exact⟨h2,h3,h4⟩
 ·subst e
  obtain⟨h1,_⟩:=qC X0 n s
  rw[←h1]
  exact Eh x X0 f0 n s w a nd hs63 (fun k hf=>(eO.plain.mpr hg).mores hi hf)
theorem Bq (x:Nat)(X:ap)(F:dN)(f:List Nat)(i:Nat)(n:Int)(s:ByteArray)(w:World)(h:bg x X F w f)(hn:f.Nodup)(hg:eO i X)(hi:i≤100000000000000)(hs63:s.size<9223372036854775808):
  Calls Tryz.prog 23 #[.pointer (some ⟨x,0,none⟩),.int .i64 n,.string s] w fun e w'=>e=.returned (.int .i64 (aX X n s).1)∧cM (bg x (aX X n s).2 (cy X (aX X n s).2 F)) f w w':=by
 refine bg.call (fun X0=>(aX X0 n s).2) h hn (fun X0 e=>?_) (fun X0 f0 e a nd=>?_)
 ·subst e
  obtain⟨_,h2,h3,h4⟩:=nq X0 n s
  exact⟨h2,h3,h4⟩
 ·subst e
  obtain⟨h1,_⟩:=nq X0 n s
  rw[←h1]
  exact Al x X0 f0 n s w a nd hs63 (fun k hf=>(eO.plain.mpr hg).mores hi hf)
theorem By (x:Nat)(X:ap)(F:dN)(f:List Nat)(n:Int)(w:World)(h:bg x X F w f)(hn:f.Nodup):
  Calls Tryz.prog 27 #[.pointer (some ⟨x,0,none⟩),.int .i64 n] w fun e w'=>e=.returned (.int .i64 (aY X n).1)∧cM (bg x (aY X n).2 (cy X (aY X n).2 F)) f w w':=by
 refine bg.call (fun X0=>(aY X0 n).2) h hn (fun X0 e=>?_) (fun X0 f0 e a nd=>?_)
 ·subst e
  obtain⟨_,h2,h3,h4⟩:=nu X0 n
  exact⟨h2,h3,h4⟩
 ·subst e
  obtain⟨h1,_⟩:=nu X0 n
  rw[←h1]
  exact zI x X0 f0 n w a nd
theorem wX (x:Nat)(X:ap)(F:dN)(f:List Nat)(i:Nat)(n:Int)(w:World)(h:bg x X F w f)(hn:f.Nodup)(hg:eO i X)(hi:i≤100000000000000):
  Calls Tryz.prog 29 #[.pointer (some ⟨x,0,none⟩),.int .i64 n] w fun e w'=>e=.returned (.tuple #[.int .i64 (bH X n).1.1,.int .i64 (bH X n).1.2])∧cM (bg x (bH X n).2 (cy X (bH X n).2 F)) f w w':=by
 refine bg.call (fun X0=>(bH X0 n).2) h hn (fun X0 e=>?_) (fun X0 f0 e a nd=>?_)
 ·subst e
  obtain⟨_,h2,h3,h4⟩:=gW X0 n
  exact⟨h2,h3,h4⟩
 ·subst e
  obtain⟨h1,_⟩:=gW X0 n
  rw[←h1]
  have hg0:=eO.plain.mpr hg
  have hl:=hg0.latest
  have hk:=hg0.keptN
  exact sH x X0 f0 n w a nd (by omega) (fun c hc=>by have:=hg0.len hc;omega) (by omega)
theorem AJ (x:Nat)(X:ap)(F:dN)(f:List Nat)(i:Nat)(w:World)(h:bg x X F w f)(hn:f.Nodup)(hg:eO i X)(_hi:i≤100000000000000):
  Calls Tryz.prog 36 #[.pointer (some ⟨x,0,none⟩)] w fun e w'=>e=.returned (.int .i64 (ci X).1)∧cM (bg x (ci X).2 (cy X (ci X).2 F)) f w w':=by
 refine bg.call (fun X0=>(ci X0).2) h hn (fun X0 e=>?_) (fun X0 f0 e a nd=>?_)
 ·subst e
  obtain⟨_,h2,h3,h4⟩:=mz X0
  exact⟨h2,h3,h4⟩
 ·subst e
  obtain⟨h1,_⟩:=mz X0
  rw[←h1]
  have hg0:=eO.plain.mpr hg
  have hk:=hg0.keptN
  exact qx x X0 f0 w a nd (fun c hc=>by have:=hg0.len hc;omega) (by omega)
theorem C2 (x:Nat)(X:ap)(F:dN)(f:List Nat)(i:Nat)(w:World)(h:bg x X F w f)(hn:f.Nodup)(hg:eO i X)(_hi:i≤100000000000000):
  Calls Tryz.prog 35 #[.pointer (some ⟨x,0,none⟩)] w fun e w'=>e=.returned (.int .i64 (keptN X 60:Nat))∧cM (bg x X F) f w w':=by
 refine bg.see h hn (fun X0 f0 e _ a=>?_)
 subst e
 have hg0:=eO.plain.mpr hg
 have hk:=hg0.keptN
 rw[fY]
 refine (Bm x X0 f0 w a (by omega)).mono ?_
 rintro e w' ⟨rfl,rfl⟩
 exact⟨rfl,Fr.refl _ _⟩
theorem Dp (x:Nat)(X:ap)(F:dN)(f:List Nat)(i:Nat)(n:Int)(w:World)(h:bg x X F w f)(hn:f.Nodup)(hg:eO i X)(_hi:i≤100000000000000):
  Calls Tryz.prog 25 #[.pointer (some ⟨x,0,none⟩),.int .i64 n] w fun e w'=>e=.returned (.tuple #[.string (fL X n).1,.int .i64 (fL X n).2])∧cM (bg x X F) f w w':=by
 refine bg.see h hn (fun X0 f0 e _ a=>?_)
 subst e
 have hg0:=eO.plain.mpr hg
 have hv:fL X0.plain n=fL X0 n:=rfl
 rw[hv]
 exact Cl x X0 f0 n w a (fun c hc=>by have:=hg0.len hc;omega) (fun k hf=>hg0.seen (dY hf).1)
def wm (X:ap)(F:dN)(n:Int):ByteArray×Int:=match aM X n with
 |none=>(ByteArray.empty,6)
 |some k=>(ep (bK (i8 (eh X.src.2.1 X.src.2.2)) (jr X.src.2.1 (fO X k) X.src.2.2 (wy (F k)) X.src.2.2.length)),0)
theorem uL (x:Nat)(X:ap)(F:dN)(f:List Nat)(i:Nat)(n:Int)(w:World)(h:bg x X F w f)(hn:f.Nodup)(hg:eO i X)(_hi:i≤100000000000000)(hR:nS X.src.2.1 X.src.2.2):
  Calls Tryz.prog 31 #[.pointer (some ⟨x,0,none⟩),.int .i64 n] w fun e w'=>e=.returned (.tuple #[.string (wm X F n).1,.int .i64 (wm X F n).2])∧cM (bg x X F) f w w':=by
 refine bg.see h hn (fun X0 f0 e hA a=>?_)
 subst e
 have hrl:=hA.rules
 have hg0:=eO.plain.mpr hg
 obtain⟨kv,hk⟩:=a
 unfold wm
 have e1:aM X0.plain n=aM X0 n:=rfl
 rw[e1]
 cases hf:aM X0 n with
 |none=>
  refine (qZ x X0 kv n w hk.1 hf).mono ?_
  rintro e w' ⟨rfl,r⟩
  exact⟨rfl,aK r⟩
 |some k=>
  have hk8:=(dY hf).1
  have hM:jH (X0.ses k).mks (F k) w:=by
   obtain⟨_,_,_,⟨_,_,⟨h2,_⟩,_,_⟩,_⟩:=hA
   exact h2 k hk8
  have hcell:=(hk.1.ses k hk8).mks
  refine (qY x X0 kv n k X0.src.2.1 X0.src.2.2 X0.src.1.1 0 (wy (F k)) w hk.1 hk.rows (fun c hc=>by have:=hg0.len hc;omega) hf (hg0.seen hk8) rfl hrl hR.walk hR.nine (af (fun j hj ii W hii hW=>?_))).mono ?_
  ·obtain⟨a1,a2⟩:=iG (tG X0 k) j (hR.walk _ (List.getElem_mem hj)) ii hii
   have h9:=hR.nine
   have hj':j<X0.src.2.2.length:=hj
   have h9':X0.src.2.2.length≤9:=h9
   exact t4 _ ii x (3+k*244+243) (X0.ses k).mks (F k) W (by omega) a1 (am hW hcell) (hM.grown hW)
  ·rintro e w' ⟨rfl,r⟩
   exact⟨rfl,aK r⟩
theorem BB (ws:List (Nat×Option Int)):∀ S:aJ,puts S.bare ws=(puts S ws).bare:=by
 induction ws with
 |nil=>intro S;rfl
 |cons q ws ih=>
  intro S
  exact ih (S.put q.1 q.2)
theorem AQ (s:ByteArray)(R:List ay)(f:Nat→Int×Option Int)(S:aJ)(fm:Nat→Option Int):jN s R f S.bare fm=jN s R f S fm:=rfl
theorem rK (s:ByteArray)(R:List ay)(f:Nat→Int×Option Int):∀ (n:Nat) (S:aJ) (fm:Nat→Option Int),cU s R f n S.bare fm=((cU s R f n S fm).1,(cU s R f n S fm).2.1.bare,(cU s R f n S fm).2.2)
 |0,S,fm=>rfl
 |n+1,S,fm=>by
  unfold cU
  rw[AQ]
  cases jN s R f S fm with
  |none=>rfl
  |some i=>
   simp only[]
   cases fW s i.env (R.getD i.rule (0,[],[])).2.2 with
   |none=>rfl
   |some q=>
    simp only[]
    rw[BB,rK s R f n]
    split <;> rfl
theorem BV (ws:List (Nat×Option Int)):∀ S:aJ,(puts S ws).num=S.num:=by
 induction ws with
 |nil=>intro S;rfl
 |cons q ws ih=>intro S;exact ih (S.put q.1 q.2)
structure Fg (S S':aJ)(f:Nat→Int×Option Int)(n:Nat):Prop where
 num:S'.num=S.num
 snap:S'.snap=S.snap
 made:S.made≤S'.made∧S'.made≤S.made+4*n
 ok:yt S' f
theorem tp {s:ByteArray}{R:List ay}{f:Nat→Int×Option Int}(hR:nS s R):∀ (n:Nat) (S:aJ) (fm:Nat→Option Int),yt S f→Fg S (cU s R f n S fm).2.1 f n
 |0,S,fm,h=>⟨rfl,rfl,by show S.made≤S.made∧S.made≤S.made+4*((0:Nat):Int);omega,h⟩
 |n+1,S,fm,h=>by
  have same:Fg S S f (n+1):=⟨rfl,rfl,by omega,h⟩
  unfold cU
  cases hi:jN s R f S fm with
  |none=>exact same
  |some i=>
   simp only[]
   cases ho:fW s i.env (R.getD i.rule (0,[],[])).2.2 with
   |none=>exact same
   |some q=>
    simp only[]
    have hr:i.rule<R.length:=(mH h.facts (ix _ _ _) hR.walk (uP hi)).1
    have e:R.getD i.rule (0,[],[])=R[i.rule]:=by simp[List.getD,List.getElem?_eq_getElem hr]
    rw[e] at ho
    obtain⟨a1,a2⟩:=hR.acts _ (List.getElem_mem hr)
    have hlen:=kP s i.env R[i.rule].2.2 _ (Nat.le_refl _) q (by rw[List.take_length];exact ho)
    have hdig:=mK a1 _ (Nat.le_refl _) q (by rw[List.take_length];exact ho)
    obtain⟨m1,m2,_⟩:=nL q.1 S
    have hw:yt (puts S q.1) f:=h.puts (fun x hx=>(hdig x hx).2)
    have hnum:=BV q.1 S
    cases q.2 with
    |true=>
     refine⟨hnum,m2,?_,hw⟩
     show S.made≤(puts S q.1).made∧(puts S q.1).made≤S.made+4*((n+1:Nat):Int)
     rw[m1]
     omega
    |false=>
     have ih:=tp hR n (puts S q.1) (cG fm (bX i) (some (b8 i.facts))) hw
     refine⟨ih.num.trans hnum,ih.snap.trans m2,?_,ih.ok⟩
     have h1:=ih.made
     rw[m1] at h1
     show S.made≤(cU s R f n (puts S q.1) (cG fm (bX i) (some (b8 i.facts)))).2.1.made∧(cU s R f n (puts S q.1) (cG fm (bX i) (some (b8 i.facts)))).2.1.made≤S.made+4*((n+1:Nat):Int)
     omega
def nG (X:ap)(F:dN)(k n:Nat):(Nat×Int)×aJ×(Nat→Option Int):=cU X.src.2.1 X.src.2.2 (fun c=>aN (X.hist c) (X.ses k).snap) n (X.ses k) (F k)
theorem xR (X:ap)(F:dN)(k n:Nat):nG X.plain F k n=((nG X F k n).1,(nG X F k n).2.1.bare,(nG X F k n).2.2):=rK _ _ _ _ _ _
def gN (X:ap)(F:dN)(n c:Int):(Int×Int×Int)×ap×dN:=match aM X n with
 |none=>((0,0,6),X,F)
 |some k=>if 0≤c∧c≤99 then (((nG X F k c.toNat).1.1,(nG X F k c.toNat).1.2,0),X.setSes k (nG X F k c.toNat).2.1,cG F k (nG X F k c.toNat).2.2) else ((0,0,9),X,F)
theorem eO.wok {i:Nat}{X:ap}(h:eO i X){k:Nat}(hk:k<8):yt (X.ses k) (fun c=>aN (X.hist c) (X.ses k).snap):=
 ⟨h.wr k hk,fun c v hv=>(h.his c _ (oo hv)).2 v hv⟩
theorem eO.run {i:Nat}{X:ap}(h:eO i X)(F:dN)(n c:Int)(hR:nS X.src.2.1 X.src.2.2):eO (i+1) (gN X F n c).2.1:=by
 unfold gN
 cases hf:aM X n with
 |none=>exact h.mono (Nat.le_succ i)
 |some k=>
  simp only[]
  split
  ·rename_i hc
   have hk:=(dY hf).1
   have hr:=tp hR c.toNat (X.ses k) (F k) (h.wok hk)
   have hm:=h.made k hk
   refine (h.mono (Nat.le_succ i)).setSes hk (.inl hr.num) ?_ ?_ hr.ok.wr
   ·have:=h.snap k hk
    have e:=hr.snap
    show 0≤(cU _ _ _ _ _ _).2.1.snap∧(cU _ _ _ _ _ _).2.1.snap≤X.latest
    rw[e]
    exact this
   ·have e:=hr.made
    show 0≤(cU _ _ _ _ _ _).2.1.made∧(cU _ _ _ _ _ _).2.1.made≤400*((i+1:Nat):Int)
    omega
  ·exact h.mono (Nat.le_succ i)
theorem qm {X:ap}:(mb X).Nodup↔∀ i j,i<j→j<8→∀ g,(X.ses i).mks=some g→(X.ses j).mks≠some g:=by
 unfold mb
 rw[List.nodup_iff_pairwise_ne,List.pairwise_filterMap,List.pairwise_iff_getElem]
 constructor
 ·intro h i j hij hj g hi e
  have:=h i j (by simp;omega) (by simpa using hj) hij g (by simpa using hi) g (by simpa using e)
  exact this rfl
 ·intro h i j hi hj hij b hb b' hb' e
  simp only[List.getElem_range] at hb hb'
  have hj8:j<8:=by simpa using hj
  subst e
  exact h i j hij hj8 b hb hb'
theorem cJ.keep {w w':World}{b o:Nat}{S:aJ}(h:cJ w b o S)(hc:∀ i,o≤i→i<o+244→w'.cell? ⟨b,i,none⟩=w.cell? ⟨b,i,none⟩):cJ w' b o S:=
 ⟨(hc _ (by omega) (by omega)).trans h.num,(hc _ (by omega) (by omega)).trans h.snap,(hc _ (by omega) (by omega)).trans h.cnt,fun c hl=>(hc _ (by omega) (by omega)).trans (h.made c hl),fun c hl=>(hc _ (by omega) (by omega)).trans (h.filled c hl),fun c hl=>(hc _ (by omega) (by omega)).trans (h.val c hl),fun c hl=>(hc _ (by omega) (by omega)).trans (h.tm c hl),(hc _ (by omega) (by omega)).trans h.mks,h.ok⟩
theorem fI.pat {x k:Nat}{X:ap}{kv:Nat→Value}{G:List Nat}{S':aJ}{fm':Nat→Option Int}{m:Option Nat}{w w':World}(hk:k<8)(h:ju w x X kv)(hr:fI x (3+k*244) G S' fm' m w w'):ju w' x (X.setSes k { S' with mks:=m }) kv:=by
 obtain⟨cs,hb⟩:=h.block
 have hc:=hr.chg.cell
 refine⟨hr.chg.blk hb,(hc _ (by omega)).trans h.rules,(hc _ (by omega)).trans h.room,(hc _ (by omega)).trans h.opened,fun j hj=>?_,⟨(hc _ (by omega)).trans h.store.latest,fun c hl=>(hc _ (by omega)).trans (h.store.last c hl),fun c hl=>(hc _ (by omega)).trans (h.store.kept c hl)⟩⟩
 show cJ w' x (3+j*244) (cG X.ses k { S' with mks:=m } j)
 by_cases e:j=k
 ·subst e
  rw[aW]
  exact hr.ses
 ·rw[bF _ _ _ e]
  exact (h.ses j hj).keep (fun i h1 h2=>hc i (by omega))
theorem ku.ran {x k:Nat}{X:ap}{F:dN}{w w':World}{f:List Nat}{S':aJ}{fm':Nat→Option Int}{m:Option Nat}(h:ku x X F w f)(hn:f.Nodup)(hk:k<8)(hr:fI x (3+k*244) (X.ses k).mks.toList S' fm' m w w'):
  cM (ku x (X.setSes k { S' with mks:=m }) (cG F k fm')) f w w':=by
 have hwi:=ku.within _ _ _ h
 obtain⟨f0,f1,⟨kv,hP,fh,hE,rfl⟩,⟨f2,f3,⟨h2,rfl⟩,h3,rfl⟩,rfl⟩:=h
 have hmk:∀ g,(X.ses k).mks=some g→g∈mb X:=fun g hg=>gD.mpr ⟨k,hk,hg⟩
 rw[List.nodup_append] at hn
 obtain⟨n0,n1,d01⟩:=hn
 rw[List.nodup_append] at n1
 obtain⟨n2,n3,d23⟩:=n1
 rw[List.nodup_cons] at n0
 have hfr:Fr (x::(X.ses k).mks.toList) w w':=hr.chg.fr
 have hG:∀ g,g∈(X.ses k).mks.toList↔(X.ses k).mks=some g:=fun g=>by
  cases (X.ses k).mks with
  |none=>simp
  |some a=>simp[eq_comm]
 have hother:∀ j,j≠k→(X.setSes k { S' with mks:=m }).ses j=X.ses j:=fun j e=>bF _ _ _ e
 have hself:(X.setSes k { S' with mks:=m }).ses k={ S' with mks:=m }:=aW _ _ _
 have hmnew:∀ g,m=some g→(X.ses k).mks=some g∨w.heap.size≤g:=fun g hg=>by
  rcases hr.old g hg with h|h
  ·exact .inl ((hG g).mp h)
  ·exact .inr h
 have hn2:=qm.mp n2
 have hlt:∀ j,j<8→∀ g,(X.ses j).mks=some g→g<w.heap.size:=fun j hj g hg=>by
  have:=h2 j hj
  rw[hg] at this
  exact this.lt
 have hML:∀ g,g∈mb (X.setSes k { S' with mks:=m })→g∈mb X∨w.heap.size≤g:=fun g hg=>by
  obtain⟨j,hj,e⟩:=gD.mp hg
  by_cases ej:j=k
  ·subst ej
   rw[hself] at e
   rcases hmnew g e with h|h
   ·exact .inl (hmk g h)
   ·exact .inr h
  ·rw[hother j ej] at e
   exact .inl (gD.mpr ⟨j,hj,e⟩)
 refine⟨(x::fh)++(mb (X.setSes k { S' with mks:=m })++f3),⟨x::fh,_,⟨kv,hr.pat hk hP,fh,?_,rfl⟩,⟨_,f3,⟨fun j hj=>?_,rfl⟩,?_,rfl⟩,rfl⟩,?_,?_,?_⟩
 ·show aB ia ((List.range 60).map kv) ((List.range 60).map X.hist) w' fh
  refine aB.framed ia.framed _ _ hE hfr (fun g hg hs=>?_)
  rcases List.mem_cons.mp hs with e|e
  ·exact n0.1 (e▸hg)
  ·exact d01 g (by simp[hg]) g (List.mem_append_left _ (hmk g ((hG g).mp e))) rfl
 ·by_cases ej:j=k
  ·subst ej
   rw[hself,aW]
   exact hr.mar
  ·rw[hother j ej,bF _ _ _ ej]
   refine (h2 j hj).fr hfr (fun g hg hs=>?_)
   rcases List.mem_cons.mp hs with e|e
   ·exact d01 x (by simp) g (List.mem_append_left _ (gD.mpr ⟨j,hj,hg⟩)) e.symm
   ·have hgk:=(hG g).mp e
    rcases Nat.lt_or_gt_of_ne ej with hl|hl
    ·exact hn2 j k hl hk g hg hgk
    ·exact hn2 k j hl hj g hgk hg
 ·refine ik.framed _ h3 hfr (fun g hg hs=>?_)
  rcases List.mem_cons.mp hs with e|e
  ·exact d01 x (by simp) g (List.mem_append_right _ hg) e.symm
  ·exact d23 g (hmk g ((hG g).mp e)) g hg rfl
 ·rw[List.nodup_append]
  refine⟨by rw[List.nodup_cons];exact n0,?_,?_⟩
  ·rw[List.nodup_append]
   refine⟨qm.mpr (fun i j hij hj g hi e=>?_),n3,fun a ha b hb e=>?_⟩
   ·by_cases ei:i=k
    ·subst ei
     have ej:j≠i:=by omega
     rw[hself] at hi
     rw[hother j ej] at e
     rcases hmnew g hi with h|h
     ·exact hn2 i j hij hj g h e
     ·have:=hlt j hj g e;omega
    ·rw[hother i ei] at hi
     by_cases ej:j=k
     ·subst ej
      rw[hself] at e
      rcases hmnew g e with h|h
      ·exact hn2 i j hij hj g hi h
      ·have:=hlt i (by omega) g hi;omega
     ·rw[hother j ej] at e
      exact hn2 i j hij hj g hi e
   ·subst e
    rcases hML a ha with h|h
    ·exact d23 a h a hb rfl
    ·have:=hwi a (List.mem_append_right _ (List.mem_append_right _ hb));omega
  ·intro a ha b hb e
   subst e
   rcases List.mem_append.mp hb with hb|hb
   ·rcases hML a hb with h|h
    ·exact d01 a ha a (List.mem_append_left _ h) rfl
    ·have:=hwi a (List.mem_append_left _ ha);omega
   ·exact d01 a ha a (List.mem_append_right _ hb) rfl
 ·intro y hy
  rcases List.mem_append.mp hy with hy|hy
  ·exact .inl (List.mem_append_left _ hy)
  ·rcases List.mem_append.mp hy with hy|hy
   ·rcases hML y hy with h|h
    ·exact .inl (List.mem_append_right _ (List.mem_append_left _ h))
    ·exact .inr h
   ·exact .inl (List.mem_append_right _ (List.mem_append_right _ hy))
 ·refine hfr.mono (fun y hy=>.inl ?_)
  rcases List.mem_cons.mp hy with e|e
  ·subst e;simp
  ·exact List.mem_append_right _ (List.mem_append_left _ (hmk y ((hG y).mp e)))
theorem Eo (x:Nat)(X:ap)(F:dN)(f:List Nat)(i:Nat)(n c:Int)(w:World)(h:bg x X F w f)(hn:f.Nodup)(hg:eO i X)(hi:i≤100000000000000)(hR:nS X.src.2.1 X.src.2.2):
  Calls Tryz.prog 33 #[.pointer (some ⟨x,0,none⟩),.int .i64 n,.int .i64 c] w fun e w'=>e=.returned (.tuple #[.int .i64 (gN X F n c).1.1,.int .i64 (gN X F n c).1.2.1,.int .i64 (gN X F n c).1.2.2])∧cM (bg x (gN X F n c).2.1 (gN X F n c).2.2) f w w':=by
 have hquiet:∀ w',w.grownBy w' none→cM (bg x X F) f w w':=fun w' r=>⟨f,bg.framed _ _ _ h (aK r) (by simp),hn,fun _ hy=>.inl hy,(aK r).mono (fun k hk=>by cases hk)⟩
 have h0:=h
 obtain⟨X0,hA,rfl⟩:=h0
 have hg0:=eO.plain.mpr hg
 have hA':=hA
 obtain⟨f0,f1,⟨kv,hk⟩,⟨f2,f3,⟨h2,rfl⟩,h3,rfl⟩,rfl⟩:=hA'
 have e1:aM X0.plain n=aM X0 n:=rfl
 unfold gN
 rw[e1]
 cases hf:aM X0 n with
 |none=>
  refine (As x X0 kv n c w hk.1 hf).mono ?_
  rintro e w' ⟨rfl,r⟩
  exact⟨rfl,hquiet w' r⟩
 |some k=>
  simp only[]
  by_cases hc:0≤c∧c≤99
  ·rw[if_pos hc]
   have hk8:=(dY hf).1
   have hx0:x∈f0:=by obtain⟨_,_,_,rfl⟩:=hk;simp
   have hn':=hn
   rw[List.nodup_append] at hn'
   obtain⟨_,n1,d01⟩:=hn'
   rw[List.nodup_append] at n1
   obtain⟨_,_,d23⟩:=n1
   have hgm:∀ g,g∈(X0.ses k).mks.toList→g∈mb X0:=fun g hg=>gD.mpr ⟨k,hk8,by
    cases hm:(X0.ses k).mks with
    |none=>rw[hm] at hg;cases hg
    |some a=>rw[hm] at hg;simp at hg;rw[hg]⟩
   have hne:(X0.ses k).mks≠some x:=fun e=>d01 x hx0 x (List.mem_append_left _ (gD.mpr ⟨k,hk8,e⟩)) rfl
   have hsn:=hg0.snap k hk8
   have hmd:=hg0.made k hk8
   have hlt:=hg0.latest
   have hcc:((c.toNat:Nat):Int)=c:=Int.toNat_of_nonneg hc.1
   have:=Bn x X0 kv n k c.toNat (F k) X0.src.2.1 X0.src.2.2 X0.src.1.1 0 w hk.1 hk.rows (fun c hc=>by have:=hg0.len hc;omega) hf (h2 k hk8) hne (hg0.wok hk8) rfl (fun W hW=>(ik.framed _ h3 hW (fun g hg hs=>by
    rcases List.mem_cons.mp hs with e|e
    ·exact d01 x hx0 g (List.mem_append_right _ hg) e.symm
    ·exact d23 g (hgm g e) g hg rfl)).now) hR.walk hR.acts hR.nine (by omega) hsn.1 (by omega)
   rw[hcc] at this
   refine this.mono ?_
   rintro e w' ⟨rfl,m,hr⟩
   have hT:=ku.ran hA hn hk8 hr
   have hp:nG X0.plain F k c.toNat=((nG X0 F k c.toNat).1,(nG X0 F k c.toNat).2.1.bare,(nG X0 F k c.toNat).2.2):=xR X0 F k c.toNat
   rw[hp]
   refine⟨rfl,?_⟩
   obtain⟨f',a,n',s',r'⟩:=hT
   refine⟨f',⟨_,a,?_⟩,n',s',r'⟩
   rw[eG]
   rfl
  ·rw[if_neg hc]
   refine (zZ x X0 kv n c k w hk.1 hf (by omega)).mono ?_
   rintro e w' ⟨rfl,r⟩
   exact⟨rfl,hquiet w' r⟩
end Go.Proofs.YthlhbjnkohinmaaGreat
