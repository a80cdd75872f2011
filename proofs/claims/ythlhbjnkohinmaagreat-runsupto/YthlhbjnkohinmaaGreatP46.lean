import Derived.Test.YthlhbjnkohinmaaGreatP43
import Derived.Test.YthlhbjnkohinmaaGreatP44
import Derived.Test.YthlhbjnkohinmaaGreatP45
import Derived.Test.YthlhbjnkohinmaaGreatP15
namespace Go.Proofs.YthlhbjnkohinmaaGreat
set_option maxRecDepth 100000
set_option maxHeartbeats 8000000
open Go.RowKit
def uG (com:List (List Wr)) (S:br):ap:=⟨((.bool false,0),ByteArray.empty,[]),S.num,cH (fun _=>.zero) 0 (AE S),com.length,fun c=>(dK com (aw c) com.length).2,dy com⟩
def wz (com:List (List Wr)) (S:br):bk:=⟨0,com,List.replicate (rL com) (0,ByteArray.empty,0),[S.nf],S.num⟩
theorem D0 {S:br} (h1:1≤S.num):df (AE S) S.nf:=by
 refine⟨rfl,h1,rfl,fun c _=>rfl,rfl,fun c _ k hk=>?_,rfl,rfl⟩
 show (match bd (aw c) S.wr with|some k=>S.snap+((k:Int)+1)|none=>0)=S.snap+((k:Int)+1)
 have:bd (aw c) S.wr=some k:=hk
 rw[this]
theorem vw (com:List (List Wr)) (S:br):(uG com S).ses 0=AE S:=aW (fun _=>aI.zero) 0 (AE S)
theorem FT {com:List (List Wr)} {S:br} (h1:1≤S.num) (h0:0≤S.snap) (hl:S.snap≤com.length):g9 (uG com S) (wz com S) [(0,S.nf)]:=by
 refine { opn:=rfl,places:=by simp,lt:=by simp,ses:=?_,free:=?_,nums:=by simp,opened:=rfl,openedPos:=?_,numLe:=?_,snap:=?_,latest:=rfl,hist:=?_,histS:=?_,histLe:=?_,last:=fun c _=>rfl,room:=rfl,kept:=?_ }
 ·intro q hq
  rw[List.mem_singleton] at hq
  subst hq
  rw[vw]
  exact D0 h1
 ·intro k _ hk
  show (cH (fun _=>aI.zero) 0 (AE S) k).num=0
  rw[bE _ _ _ (fun e=>hk (0,S.nf) (by simp) e.symm)]
  rfl
 ·show 0≤S.num
  omega
 ·intro q hq
  rw[List.mem_singleton] at hq
  subst hq
  exact Int.le_refl _
 ·intro q hq
  rw[List.mem_singleton] at hq
  subst hq
  exact⟨h0,hl⟩
 ·intro c _ t ht
  have:=congrArg Prod.snd (iH com c t ht)
  rw[gn] at this
  exact this
 ·intro c _ t ht
  exact congrArg Prod.fst (iH com c t ht)
 ·intro c _ p hp
  exact (lq hp).2
 ·show keptN (uG com S) 60=(List.replicate (rL com) ((0:Int),((ByteArray.empty,0):Wr))).length
  rw[List.length_replicate]
  exact ms (uG com S) com
theorem nA (com:List (List Wr)) (S:br):fQ (uG com S) 0=fe com S:=by
 unfold fQ
 rw[vw]
 rfl
theorem yQ {sn:Int} {P:aI} {fm:Nat→Option Int} (y:Nat) (com:List (List Wr)) (S:br) (p:Value) (a:Option Addr) (cp:Nat) (cs:List Value) (fc fp:List Nat) (s:ByteArray) (R:List ax) (ra:Option Addr) (rc:Nat) (xs:List Value) (w:World)
  (hE:im y com S p a cp cs fc fp w) (hA:lK y s R ra rc xs w) (hk:oK com S) (hR:fV s R) (hrel:is s R com sn P fm S) (hcv:∀ l∈com,∀ q∈l,-1≤q.2∧q.2≤9) (hce:∀ l∈com,l.length≤60) (hwv:∀ q∈S.wr,-1≤q.2∧q.2≤9) (hFl:S.fired.length≤1000000000000) :
  Calls Tryz.prog 63 #[.pointer (some ⟨y,0,none⟩),p] w fun e w'=>∃ v,e=.returned v∧w'.ownsRow w.heap.size 136 6 v (mD s R com S).length (aH (mD s R com S))∧w.grownBy w' none:=by
 have hnum:1≤S.num:=hrel.ses.pos
 have hs:=FT hnum hk.snap hk.snapLe
 have hq:((0:Nat),S.nf)∈[((0:Nat),S.nf)]:=by simp
 have hwf:kB (wz com S):=by
  refine⟨by have:=hk.comLen;show com.length≤_;omega,fun l hl=>by have:=hce l hl;omega,hcv,by simp[wz],?_,?_,?_⟩
  ·intro T hT
   have:T=S.nf:=by simpa [wz] using hT
   rw[this]
   exact⟨hk.snap,hk.snapLe⟩
  ·intro T hT
   have:T=S.nf:=by simpa [wz] using hT
   rw[this]
   exact hk.wrLen
  ·intro T hT
   have:T=S.nf:=by simpa [wz] using hT
   rw[this]
   exact hwv
 have hsees:∀ c,(dn com S c).1≤9:=fun c=>(hwf.sees (S:=S.nf) (by simp[wz]) c).2
 have hFO:=hrel.facts
 have hFl60:(fe com S).length≤60:=iv _ _ _
 have hz:bz (-1) s (fe com S) R R.length=bz 0 s (fe com S) R R.length:=yz (fun r hr=>(hR.all.walk r hr).conds) hR.all.bound _ (Nat.le_refl _)
 have hin:=vT hFO hFl60 hR.all.walk hR.all.nine
 have hsort:pN (fe com S):=by
  have:=Bt (uG com S) 0
  rw[nA] at this
  exact this
 obtain⟨hso,hrl⟩:=pG hsort hFO hFl60 (fun r hr=>(hR.all.walk r hr).conds) R.length (Nat.le_refl _)
 have hle:=kX hFl60 hR.all.walk R.length (Nat.le_refl _)
 have h9:=hR.all.nine
 have hfl:nE (bz 0 s (fe com S) R R.length) (Fh com S) (bz 0 s (fe com S) R R.length).length=jv s (fe com S) R (Fh com S) R.length:=by
  unfold nE jv
  rw[List.take_length]
 have hM:mD s R com S=bK (iZ (eh s R)) (nE (bz 0 s (fe com S) R R.length) (Fh com S) (bz 0 s (fe com S) R R.length).length):=by
  rw[hfl]
  rfl
 rw[hM,dO]
 refine Du y com S p a cp cs fc fp s R ra rc xs (fe com S) (bz 0 s (fe com S) R R.length) (iZ (eh s R)) (Fh com S) w hE hA hk ?_ ?_ ?_ (v7 _) (by omega) (fun ii hii=>?_) ?_
 ·refine af (fun ii hii W hW=>?_)
  have a1:=hin ii hii
  have a2:=hrl ii hii
  exact zp y com S p a cp cs fc fp ii W (hE.kept hW) hk (by omega) (by omega) hFl
 ·refine af ?_
  have:=su y com S p a cp cs fc fp w hE hk.snap hk.snapLe (by have:=hk.comLen;omega) hk.each hk.wrLen hsees
  obtain⟨e1,e2⟩:=zo hs hq
  rw[nA] at e1 e2
  have f1:(cG com S 60).map Value.string=gC (fe com S):=e1
  have f2:(cG com S 60).length=(fe com S).length:=e2
  rw[f1,f2] at this
  exact this
 ·refine af (fun fa fcp W hW hfr=>?_)
  have hAW:=hA.kept hW
  have:=EG s R (fe com S) ra fa rc fcp xs W hR.all.size hR.all.ok hR.all.nine hR.all.five hFO hFl60 hAW.row hAW.parts hfr
  rw[hz] at this
  exact this
 ·have a1:=hin ii hii
  have a2:=hrl ii hii
  exact⟨by omega,a2,by omega⟩
 ·intro k hk1 ii hk2 hik
  have hp:=List.pairwise_iff_getElem.mp hso ii k hk2 hk1 hik
  have m1:∀ q∈(bz 0 s (fe com S) R R.length)[k].facts,q∈fQ (uG com S) 0:=fun q hq=>by rw[nA];exact pz hFO (List.getElem_mem hk1) q hq
  have m2:∀ q∈(bz 0 s (fe com S) R R.length)[ii].facts,q∈fQ (uG com S) 0:=fun q hq=>by rw[nA];exact pz hFO (List.getElem_mem hk2) q hq
  obtain⟨t1,t2⟩:=yM hs hq m1
  obtain⟨u1,u2⟩:=yM hs hq m2
  have t3:gO com S (bz 0 s (fe com S) R R.length)[k].facts=jc com.length S.snap (b9 (bz 0 s (fe com S) R R.length)[k].facts):=t2
  have u3:gO com S (bz 0 s (fe com S) R R.length)[ii].facts=jc com.length S.snap (b9 (bz 0 s (fe com S) R R.length)[ii].facts):=u2
  rw[t3,u3]
  refine wM hk.snap hk.snapLe t1 u1 _ _ _ _ _ ⟨fun hne=>?_,fun he=>?_⟩
  ·rcases hp with hp|⟨hp,_⟩ <;> omega
  ·rcases hp with hp|⟨_,hp⟩
   ·omega
   ·rw[AR]
    exact yJ _ _ hp
def QD (s:ByteArray) (R:List ax) (rv:Value):eV:=ix fun w=>jp w 0 s rv R
theorem QD.framed (s:ByteArray) (R:List ax) (v:Value):bS (QD s R v):=ix.framed _
theorem QD.within (s:ByteArray) (R:List ax) (v:Value):bX (QD s R v):=ix.within _
theorem QD.rules {s:ByteArray} {R:List ax} {rv:Value} {y:Nat} {w:World} {f:List Nat} (h:QD s R rv w f) (hc:w.cell? ⟨y,0,none⟩=some rv):∃ ra rc xs,lK y s R ra rc xs w:=by
 obtain⟨xs,h3,h4⟩:=h.now
 obtain⟨ra,rm,rc,rfl⟩:=an h3
 have em:=ar h3
 subst em
 exact⟨ra,rc,xs,hc,h3,h4⟩
theorem bJ.rulD {s:ByteArray} {R:List ax} {y:Nat} {E:bk} {w:World} {f:List Nat} (h:bJ (QD s R) y E w f):∃ ra rc xs,lK y s R ra rc xs w:=by
 obtain⟨rv,cv,kv,ov,cs,ps,f1,f2,⟨hb,rfl⟩,⟨f3,f4,hq,_⟩,_⟩:=h
 exact hq.rules (by simp[World.cell?,hb])
theorem bP.see {i:Nat} {X:ap} {F:dN} {E:bk} (h:bP i X F E) (hi:i≤1000000000) {S:br} (hS:S∈E.opn):oK E.com S:=
 ⟨(h.sim.pos hS).2.2.1,(h.sim.pos hS).2.2.2,by have:=h.comLen;omega,fun l hl=>by have:=h.bnd.comEach l hl;omega,by have:=h.wrLen hS;omega⟩
theorem CO {s:ByteArray} {R:List ax} {com:List (List Wr)} {sn:Int} {P:aI} {fm:Nat→Option Int} {S:br} (h:is s R com sn P fm S) (hR:fV s R) {i:In} (hi:i∈mD s R com S):i.rule<R.length∧i.rule≤9∧i.facts.length≤3∧∀ n v,i.env n=some v→0≤v∧v≤9:=by
 have h9:=hR.all.nine
 obtain⟨a,b,c⟩:=mU h.facts (iv _ _ _) hR.all.walk (sK hi)
 exact⟨a,by omega,b,c⟩
theorem Fw {s:ByteArray} {R:List ax} {com:List (List Wr)} {S:br} (hR:fV s R):(mD s R com S).length≤10000000000:=by
 unfold mD
 rw[dO]
 have h1:=kX (iv (AE S) (fS com S.snap) 60) hR.all.walk R.length (Nat.le_refl _)
 have h2:(jv s (fe com S) R (Fh com S) R.length).length≤(bz 0 s (fe com S) R R.length).length:=List.length_filter_le _ _
 have h9:=hR.all.nine
 have h3:(bz 0 s (fe com S) R R.length).length=(bz 0 s (di (AE S) (fS com S.snap) 60) R R.length).length:=rfl
 omega
theorem xo {i y:Nat} {X:ap} {F:dN} {E:bk} {f:List Nat} {w:World} (n:Int) (hd:bJ (QD X.src.2.1 X.src.2.2) y E w f) (h:bP i X F E) (hi:i≤1000000000) :
  Calls Tryz.prog 32 #[.pointer (some ⟨y,0,none⟩),.int .i64 n] w fun e w'=>e=.returned (.tuple #[.string (qo X.src.2.1 X.src.2.2 E n).1,.int .i64 (qo X.src.2.1 X.src.2.2 E n).2])∧w.grownBy w' none:=by
 have hwf:=h.wf (by omega)
 unfold qo
 rcases h.sim.find n with ⟨_,_,e2⟩|⟨j,k,hj,hk,hn,hkn,_,_,e2,hss,_⟩
 ·rw[e2]
  exact ry _ y E f n w hd hwf e2
 ·rw[e2]
  have hS:=List.getElem_mem hj
  have hrel:=h.rel hj hk (hkn.trans hn.symm) hss
  obtain⟨ra,rc,xs,hA⟩:=hd.rulD
  refine rx _ y E f n E.opn[j] _ w hd hwf e2 (fun ii hii=>?_) (Fw h.rul) (af (fun p a cp cs fc fp hE=>?_))
  ·have:=CO hrel h.rul hii
   exact⟨by omega,this.2.1⟩
  ·exact yQ y E.com E.opn[j] p a cp cs fc fp _ _ ra rc xs w hE hA (h.see hi hS) h.rul hrel h.bnd.comVal h.bnd.comEach (h.bnd.wrVal _ hS) (by have:=h.bnd.firLen _ hS;omega)
theorem CC {i y:Nat} {X:ap} {F:dN} {E:bk} {f:List Nat} {w:World} (n c:Int) (hd:bJ (QD X.src.2.1 X.src.2.2) y E w f) (hnd:f.Nodup) (h:bP i X F E) (hi:i≤1000000000) :
  Calls Tryz.prog 34 #[.pointer (some ⟨y,0,none⟩),.int .i64 n,.int .i64 c] w fun e w'=>e=.returned (.tuple #[.int .i64 (jl X.src.2.1 X.src.2.2 E n c).1.1,.int .i64 (jl X.src.2.1 X.src.2.2 E n c).1.2.1,.int .i64 (jl X.src.2.1 X.src.2.2 E n c).1.2.2])∧cL (bJ (QD X.src.2.1 X.src.2.2) y (jl X.src.2.1 X.src.2.2 E n c).2) f w w':=by
 have hwf:=h.wf (by omega)
 have hsame:cL (bJ (QD X.src.2.1 X.src.2.2) y E) f w w:=⟨f,hd,hnd,fun _ hx=>.inl hx,Fr.refl _ _⟩
 unfold jl
 rcases h.sim.find n with ⟨_,e1,e2⟩|⟨j,k,hj,hk,hn,hkn,_,e1,e2,hss,_⟩
 ·rw[e1]
  refine (Aq _ y E f n c w hd hwf e2).mono ?_
  rintro e w' ⟨rfl,rfl⟩
  exact⟨rfl,hsame⟩
 ·rw[e1]
  simp only[]
  by_cases hc:0≤c∧c≤99
  ·rw[if_pos hc]
   have hS:=List.getElem_mem hj
   have hgd:E.opn.getD j ⟨0,0,[],[]⟩=E.opn[j]:=by simp[List.getD,hj]
   rw[hgd]
   have hrel:=h.rel hj hk (hkn.trans hn.symm) hss
   obtain⟨_,g1,g2⟩:=iG e1
   have hcc:((c.toNat:Nat):Int)=c:=Int.toNat_of_nonneg hc.1
   have hR:=h.rul
   have hsee:=h.see hi hS
   have hwl:=h.wrLen hS
   have hfl:=h.bnd.firLen _ hS
   have hcv:=h.bnd.comVal
   have hce:=h.bnd.comEach
   have hb0:wO (400*i) (100*i) E.opn[j]:=⟨hwl,hfl,h.bnd.wrVal _ hS⟩
   have hseeS:∀ S:br,S.snap=E.opn[j].snap→S.wr.length≤1000000000000→oK E.com S:=fun S h1 h2=>⟨by rw[h1];exact hsee.snap,by rw[h1];exact hsee.snapLe,hsee.comLen,hsee.each,by omega⟩
   clear h hss hkn hk
   generalize X.src.2.1=s at*
   generalize X.src.2.2=R at*
   have hout:∀ {S:br} {ii:In} {l:List In},mD s R E.com S=ii::l→ii∈mD s R E.com S:=fun e=>by rw[e];simp
   have:=Au (QD s R) (QD.framed s R) (QD.within s R) y E f n c.toNat j w hd hnd hwf.opnLen hj g1 g2 (by omega) (mD s R E.com) (aD s R) (i8 E.com)
    (fun q S=>q≤100∧(∃ P fm,is s R E.com E.opn[j].snap P fm S)∧wO (400*i+4*q) (100*i+q) S)
    ⟨Nat.zero_le _,⟨_,_,hrel⟩,hb0⟩
    (af (fun q S p ac cc cs fc fp rv f3 W hO hE hcell hQ=>by
     obtain⟨h1,⟨P,fm,h2⟩,h3⟩:=hO
     obtain⟨ra,rc,xs,hA⟩:=hQ.rules hcell
     have a1:=h3.wr
     have a2:=h3.fired
     exact yQ y E.com S p ac cc cs fc fp s R ra rc xs W hE hA (hseeS S h2.snap (by omega)) hR h2 hcv hce h3.val (by omega)))
    (af (fun q S ii l rv f3 W hO hM hcell hQ=>by
     obtain⟨h1,⟨P,fm,h2⟩,h3⟩:=hO
     obtain⟨ra,rc,xs,hA⟩:=hQ.rules hcell
     obtain⟨b1,b2,b3,b4⟩:=CO h2 hR (hout hM)
     obtain⟨a1,m1,c1,a2,m2,c2,x0,x1,x2,_,k2⟩:=iD R xs hA.parts ii.rule b1
     obtain⟨g,rfl,_,_,hl,hcell2⟩:=aC hA.row (by omega)
     have em:=ar k2
     subst em
     have h9:=hR.all.nine
     obtain⟨ac1,ac2⟩:=hR.prog.acts _ (List.getElem_mem b1)
     have e:R.getD ii.rule (0,[],[])=R[ii.rule]:=by simp[List.getD,List.getElem?_eq_getElem b1]
     have:=AT s ii R[ii.rule].2.2 y g R.length rc c2 a2 W hR.all.size (by omega) ac1 b4 (by omega) (by omega) (World.block_lt_of_cell? W _ hA.cell) hl hA.cell (hcell2 _ _ x2) k2
     unfold aD
     rw[e]
     exact this))
    (af (fun q S ii l p ac cc cs fc fp W hO hM hE=>by
     obtain⟨h1,⟨P,fm,h2⟩,h3⟩:=hO
     obtain⟨b1,b2,b3,b4⟩:=CO h2 hR (hout hM)
     have a1:=h3.wr
     exact yr y E.com S p ac cc cs fc fp ii W hE (hseeS S h2.snap (by omega)) (by omega) b2))
    (af (fun q S ii l o hq hO hM hA=>by
     obtain⟨h1,⟨P,fm,h2⟩,h3⟩:=hO
     have hii:=sK (hout hM)
     rw[wH hR hii] at hA
     have hst:=h2.step hR hii hA
     have hbn:=(h2.bnd hR hii hA h3 (i8 E.com S ii)).1
     exact⟨by omega,⟨_,_,hst⟩,hbn⟩))
    (af (fun q S hO=>by
     obtain⟨h1,_,h3⟩:=hO
     have a1:=h3.wr
     have a2:=h3.fired
     exact⟨by omega,by omega⟩))
    (af (fun ii q hA=>by
     unfold aD at hA
     have hl:=qG (-1) s ii.env (R.getD ii.rule (0,[],[])).2.2 _ (Nat.le_refl _) q (by rw[List.take_length];exact hA)
     have hK:(R.getD ii.rule (0,[],[])).2.2.length≤4:=by
      by_cases hr:ii.rule<R.length
      ·have e:R.getD ii.rule (0,[],[])=R[ii.rule]:=by simp[List.getD,List.getElem?_eq_getElem hr]
       rw[e]
       exact (hR.prog.acts _ (List.getElem_mem hr)).2
      ·have e:R.getD ii.rule (0,[],[])=(0,[],[]):=by
        rw[List.getD_eq_getElem?_getD,List.getElem?_eq_none (by omega)]
        rfl
       rw[e]
       simp
     omega))
   rw[hcc] at this
   exact this
  ·rw[if_neg hc]
   refine (AC _ y E f n c _ w hd hwf e2 (by omega)).mono ?_
   rintro e w' ⟨rfl,rfl⟩
   exact⟨rfl,hsame⟩
abbrev Pg:=ap×dN×bk
structure Aj (g x y:Nat) (X:ap) (F:dN) (E:bk) (w:World) (f1 f2:List Nat):Prop where
 block:w.heap[g]?=some (.cells #[.pointer (some ⟨x,0,none⟩),.pointer (some ⟨y,0,none⟩)] 44 (0,0))
 prog:bh x X F w f1
 doc:bJ (QD X.src.2.1 X.src.2.2) y E w f2
def wu (u:Value) (q:Pg):eV:=fun w f=>∃ g x y f1 f2,u=.pointer (some ⟨g,0,none⟩)∧Aj g x y q.1 q.2.1 q.2.2 w f1 f2∧f=g::(f1++f2)
theorem wu.framed (u:Value) (q:Pg):bS (wu u q):=by
 rintro S w w' f ⟨g,x,y,f1,f2,e,⟨h1,h2,h3⟩,rfl⟩ hf hs
 exact⟨g,x,y,f1,f2,e,⟨(hf.block g (lt_of_block h1) (hs g (by simp))).trans h1,bh.framed _ _ _ h2 hf (fun k hk=>hs k (by simp[hk])),bJ.framed (QD.framed _ _) _ _ h3 hf (fun k hk=>hs k (by simp[hk]))⟩,rfl⟩
theorem wu.within (u:Value) (q:Pg):bX (wu u q):=by
 rintro w f ⟨g,x,y,f1,f2,e,⟨h1,h2,h3⟩,rfl⟩ k hk
 rcases List.mem_cons.mp hk with rfl|hk
 ·exact lt_of_block h1
 ·rcases List.mem_append.mp hk with hk|hk
  ·exact bh.within _ _ _ h2 k hk
  ·exact bJ.within (QD.within _ _) _ _ h3 k hk
theorem C1 {g x y:Nat} {X X':ap} {F F':dN} {E E':bk} {w w1 w2:World} {f1 f2:List Nat} (h:Aj g x y X F E w f1 f2) (hn:(g::(f1++f2)).Nodup) (h1:cL (bh x X' F') f1 w w1) (h2:cL (bJ (QD X.src.2.1 X.src.2.2) y E') f2 w1 w2) (hr:X'.src=X.src) :
  cL (wu (.pointer (some ⟨g,0,none⟩)) (X',F',E')) (g::(f1++f2)) w w2:=by
 obtain⟨f1',a1,n1,s1,r1⟩:=h1
 obtain⟨f2',a2,n2,s2,r2⟩:=h2
 have wi1:=bh.within _ _ _ h.prog
 have wi2:=bJ.within (QD.within _ _) _ _ h.doc
 have wg:=lt_of_block h.block
 have hsz:=r1.size
 rw[List.nodup_cons,List.nodup_append] at hn
 obtain⟨ng,nf1,nf2,nd⟩:=hn
 have hg1:g∉f1:=fun e=>ng (by simp[e])
 have hg2:g∉f2:=fun e=>ng (by simp[e])
 have d1:∀ k∈f1',k∉f2:=by
  intro k hk hk2
  rcases s1 k hk with h|h
  ·exact nd k h k hk2 rfl
  ·have:=wi2 k hk2;omega
 have w1l:=bh.within _ _ _ a1
 refine⟨g::(f1'++f2'),⟨g,x,y,f1',f2',rfl,⟨?_,bh.framed _ _ _ a1 r2 d1,?_⟩,rfl⟩,?_,?_,?_⟩
 ·exact (r2.block g (by omega) hg2).trans ((r1.block g wg hg1).trans h.block)
 ·show bJ (QD X'.src.2.1 X'.src.2.2) y E' w2 f2'
  rw[hr]
  exact a2
 ·rw[List.nodup_cons,List.nodup_append]
  refine⟨?_,n1,n2,?_⟩
  ·intro hm
   rcases List.mem_append.mp hm with hm|hm
   ·rcases s1 g hm with h|h
    ·exact hg1 h
    ·omega
   ·rcases s2 g hm with h|h
    ·exact hg2 h
    ·omega
  ·rintro a ha b hb rfl
   rcases s2 a hb with h|h
   ·exact d1 a ha h
   ·have:=w1l a ha;omega
 ·intro k hk
  rcases List.mem_cons.mp hk with rfl|hk
  ·exact .inl (by simp)
  ·rcases List.mem_append.mp hk with hk|hk
   ·rcases s1 k hk with h|h
    ·exact .inl (by simp[h])
    ·exact .inr h
   ·rcases s2 k hk with h|h
    ·exact .inl (by simp[h])
    ·exact .inr (by omega)
 ·exact (r1.mono (fun k hk=>.inl (by simp[hk]))).trans (r2.mono (fun k hk=>.inl (by simp[hk])))
theorem Aj.grown {g x y:Nat} {X:ap} {F:dN} {E:bk} {w w':World} {f1 f2:List Nat} (h:Aj g x y X F E w f1 f2) (hf:Fr [] w w'):Aj g x y X F E w' f1 f2:=
 ⟨(hf.block g (lt_of_block h.block) (by simp)).trans h.block,bh.framed _ _ _ h.prog hf (by simp),bJ.framed (QD.framed _ _) _ _ h.doc hf (by simp)⟩
structure dl (g x y:Nat) (X:ap) (F:dN) (E:bk) (f1 f2:List Nat) (i:Nat) (w:World):Prop where
 pair:Aj g x y X F E w f1 f2
 nodup:(g::(f1++f2)).Nodup
 good:bP i X F E
 small:i≤100000000
theorem dl.grown {g x y:Nat} {X:ap} {F:dN} {E:bk} {f1 f2:List Nat} {i:Nat} {w w':World} (h:dl g x y X F E f1 f2 i w) (hf:Fr [] w w'):dl g x y X F E f1 f2 i w':=⟨h.pair.grown hf,h.nodup,h.good,h.small⟩
theorem dl.apart {g x y:Nat} {X:ap} {F:dN} {E:bk} {f1 f2:List Nat} {i:Nat} {w:World} (h:dl g x y X F E f1 f2 i w):g∉f1∧g∉f2∧(∀ k∈f2,k∉f1)∧f1.Nodup∧f2.Nodup∧(∀ k∈f1,k<w.heap.size)∧(∀ k∈f2,k<w.heap.size):=by
 have hn:=h.nodup
 rw[List.nodup_cons,List.nodup_append] at hn
 obtain⟨ng,nf1,nf2,nd⟩:=hn
 exact⟨fun e=>ng (by simp[e]),fun e=>ng (by simp[e]),fun k h2 h1=>nd k h1 k h2 rfl,nf1,nf2,bh.within _ _ _ h.pair.prog,bJ.within (QD.within _ _) _ _ h.pair.doc⟩
theorem dl.doc {g x y:Nat} {X X':ap} {F F':dN} {E:bk} {f1 f2:List Nat} {i:Nat} {w W w1 w1':World} (h:dl g x y X F E f1 f2 i w) (hW:Fr [] w W) (h1:cL (bh x X' F') f1 W w1) (hf:Fr [] w1 w1'):bJ (QD X.src.2.1 X.src.2.2) y E w1' f2:=by
 obtain⟨_,_,_,_,r⟩:=h1
 exact bJ.framed (QD.framed _ _) _ _ (bJ.framed (QD.framed _ _) _ _ (h.grown hW).pair.doc r h.apart.2.2.1) hf (by simp)
def lh (g i:Nat) (f:List Nat) (w w':World):Prop:=∃ q':Pg,cL (wu (.pointer (some ⟨g,0,none⟩)) q') f w w'∧bP (i+1) q'.1 q'.2.1 q'.2.2
def ro (f1 f2:List Nat) (A1 A2:eV) (w w':World):Prop:=∃ W W1,Fr [] w W∧cL A1 f1 W W1∧cL A2 f2 W1 w'
theorem cL.back {A:eV} {f:List Nat} {w w0 w':World} (h:cL A f w0 w') (hf:Fr [] w w0):cL A f w w':=by
 obtain⟨f',a,n,s,r⟩:=h
 refine⟨f',a,n,fun k hk=>?_,(hf.mono (fun k hk=>by cases hk)).trans r⟩
 rcases s k hk with h|h
 ·exact .inl h
 ·exact .inr (Nat.le_trans hf.size h)
theorem dl.fin {g x y:Nat} {X X':ap} {F F':dN} {E E':bk} {f1 f2:List Nat} {i:Nat} {w w':World} (h:dl g x y X F E f1 f2 i w) (hg:bP (i+1) X' F' E') (hr:X'.src=X.src) (hb:ro f1 f2 (bh x X' F') (bJ (QD X.src.2.1 X.src.2.2) y E') w w'):lh g i (g::(f1++f2)) w w':=by
 obtain⟨W,W1,hW,h1,h2⟩:=hb
 exact⟨(X',F',E'),C1 h.pair h.nodup (h1.back hW) h2 hr,hg⟩
end Go.Proofs.YthlhbjnkohinmaaGreat
