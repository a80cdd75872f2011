import Derived.Test.YthlhbjnkohinmaaGreatP49
import Derived.Test.YthlhbjnkohinmaaGreatP46
import Derived.Test.YthlhbjnkohinmaaGreatP41
import Derived.Test.YthlhbjnkohinmaaGreatP44
namespace Go.Proofs.YthlhbjnkohinmaaGreat
set_option maxRecDepth 100000
set_option maxHeartbeats 8000000
open Go.RowKit
structure xU (a b:Nat)(S:bu):Prop where
 wr:S.wr.length≤a
 fired:S.fired.length≤b
 val:∀ q∈S.wr,-1≤q.2∧q.2≤9
theorem iA.bnd {s:ByteArray}{R:List ay}{com:List (List Wr)}{sn:Int}{P:aJ}{fm:Nat→Option Int}{S:bu}(h:iA s R com sn P fm S)(hR:gg s R){i:In}(hi:i∈bA 0 s (fq com S) R R.length){q:List (Nat×Option Int)×Bool}(hq:gb s i.env (R.getD i.rule (0,[],[])).2.2=some q){a b:Nat}(hb:xU a b S)(ky:ByteArray):xU (a+4) (b+1) (S.fire ky q.1)∧q.1.length≤4:=by
 obtain⟨h1,_,_,_⟩:=h.one hR hi
 have hr:i.rule<R.length:=h1.1
 have e:R.getD i.rule (0,[],[])=R[i.rule]:=by simp[List.getD,List.getElem?_eq_getElem hr]
 rw[e] at hq
 obtain⟨a1,a2⟩:=hR.prog.acts _ (List.getElem_mem hr)
 have hdig:=nh a1 _ (Nat.le_refl _) q (by rw[List.take_length];exact hq)
 have hlen:=lg s i.env R[i.rule].2.2 _ (Nat.le_refl _) q (by rw[List.take_length];exact hq)
 refine⟨⟨?_,?_,fun p hp=>?_⟩,by omega⟩
 ·show (S.wr++q.1.map iy).length≤a+4
  rw[List.length_append,List.length_map]
  have:=hb.wr
  omega
 ·show (S.fired++[ky]).length≤b+1
  rw[List.length_append,List.length_singleton]
  have:=hb.fired
  omega
 ·have hp':p∈S.wr++q.1.map iy:=hp
  rcases List.mem_append.mp hp' with hp'|hp'
  ·exact hb.val p hp'
  ·obtain⟨x,hx,rfl⟩:=List.mem_map.mp hp'
   have h2:=(hdig x hx).2
   show -1≤x.2.getD (-1)∧x.2.getD (-1)≤9
   cases hx2:x.2 with
   |none=>simp
   |some v=>
    have:=h2 v hx2
    simp only[Option.getD_some]
    omega
theorem yY {s:ByteArray}{R:List ay}{com:List (List Wr)}{sn:Int}(hR:gg s R):∀ (n:Nat) {P:aJ} {fm:Nat→Option Int} {S:bu} {a b:Nat},iA s R com sn P fm S→xU a b S→xU (a+4*n) (b+n) (de (mD s R com) (aD s R) (jc com) n S).2
 |0,P,fm,S,a,b,h,hb=>by
  unfold de
  cases mD s R com S <;> exact hb
 |n+1,P,fm,S,a,b,h,hb=>by
  have hb':xU (a+4*(n+1)) (b+(n+1)) S:=⟨by have:=hb.wr;omega,by have:=hb.fired;omega,hb.val⟩
  unfold de
  cases hm:mD s R com S with
  |nil=>exact hb'
  |cons i l=>
   have hi:i∈bA 0 s (fq com S) R R.length:=tN (s:=s) (R:=R) (com:=com) (S:=S) (by rw[hm];simp)
   simp only[]
   rw[xP hR hi]
   cases ho:gb s i.env (R.getD i.rule (0,[],[])).2.2 with
   |none=>exact hb'
   |some q=>
    simp only[]
    obtain⟨h2,_⟩:=h.bnd hR hi ho hb (jc com S i)
    cases q.2 with
    |true=>
     simp only[if_true]
     exact⟨by have:=h2.wr;omega,by have:=h2.fired;omega,h2.val⟩
    |false=>
     simp only[Bool.false_eq_true,if_false]
     have h3:=yY hR n (h.step hR hi ho) h2
     exact⟨by have:=h3.wr;omega,by have:=h3.fired;omega,h3.val⟩
structure q6 (i:Nat)(E:bn):Prop where
 wrVal:∀ S∈E.opn,∀ q∈S.wr,-1≤q.2∧q.2≤9
 firLen:∀ S∈E.opn,S.fired.length≤100*i
 comEach:∀ l∈E.com,l.length≤60
 comVal:∀ l∈E.com,∀ q∈l,-1≤q.2∧q.2≤9
theorem q6.mono {i j:Nat}{E:bn}(h:q6 i E)(hij:i≤j):q6 j E:=⟨h.wrVal,fun S hS=>by have:=h.firLen S hS;omega,h.comEach,h.comVal⟩
structure bR (i:Nat)(X:ap)(F:dP)(E:bn):Prop where
 sim:dn X F E
 fit:eU i X
 bnd:q6 i E
 rul:gg X.src.2.1 X.src.2.2
theorem bR.mono {i j:Nat}{X:ap}{F:dP}{E:bn}(h:bR i X F E)(hij:i≤j):bR j X F E:=⟨h.sim,h.fit.mono hij,h.bnd.mono hij,h.rul⟩
theorem bR.comLen {i:Nat}{X:ap}{F:dP}{E:bn}(h:bR i X F E):E.com.length≤i:=by
 have h1:=h.sim.latest
 have h2:=h.fit.latest
 omega
theorem dn.sess {X:ap}{F:dP}{E:bn}(h:dn X F E){S:bu}(hS:S∈E.opn):∃ k,k<8∧df (X.ses k) S.nf:=by
 obtain⟨L,hs⟩:=h.sim
 have hm:S.nf∈E.nf.opn:=List.mem_map.mpr ⟨S,hS,rfl⟩
 rw[hs.opn] at hm
 obtain⟨q,hq,e⟩:=List.mem_map.mp hm
 have h1:=hs.ses q hq
 rw[e] at h1
 exact⟨q.1,hs.lt q hq,h1⟩
theorem bR.wrLen {i:Nat}{X:ap}{F:dP}{E:bn}(h:bR i X F E){S:bu}(hS:S∈E.opn):S.wr.length≤400*i:=by
 obtain⟨k,hk,hs⟩:=h.sim.sess hS
 have h1:(X.ses k).made=S.wr.length:=hs.made
 have h2:=h.fit.made k hk
 omega
theorem bR.wf {i:Nat}{X:ap}{F:dP}{E:bn}(h:bR i X F E)(hi:i≤100000000000000):kE E:=
 ⟨by have:=h.comLen;omega,fun l hl=>by have:=h.bnd.comEach l hl;omega,h.bnd.comVal,h.sim.len,fun S hS=>(h.sim.pos hS).2.2,fun S hS=>by have:=h.wrLen hS;omega,h.bnd.wrVal⟩
theorem bR.keptLen {i:Nat}{X:ap}{F:dP}{E:bn}(h:bR i X F E):E.kept.length≤999:=by
 have h1:=h.sim.kept.len
 have h2:=h.fit.keptN
 omega
theorem bR.room {i:Nat}{X:ap}{F:dP}{E:bn}(h:bR i X F E):1≤E.room∧E.room≤999:=by
 have h1:=h.sim.room
 have h2:=h.fit.room
 omega
theorem bR.rel {i:Nat}{X:ap}{F:dP}{E:bn}(h:bR i X F E){j k:Nat}(hj:j<E.opn.length)(hk:k<8)(hn:(X.ses k).num=E.opn[j].num)(hss:df (X.ses k) E.opn[j].nf):iA X.src.2.1 X.src.2.2 E.com E.opn[j].snap (X.ses k) (F k) E.opn[j]:=by
 have hS:=List.getElem_mem hj
 have hp:=h.sim.pos hS
 refine⟨hss,h.sim.fire _ hS k hk hn,⟨h.fit.wr k hk,fun c v hv=>?_⟩,rfl,hp.2.2.1,hp.2.2.2⟩
 have hver:=iG E.com c E.opn[j].snap.toNat (by omega)
 have e0:((E.opn[j].snap.toNat:Nat):Int)=E.opn[j].snap:=Int.toNat_of_nonneg hp.2.2.1
 rw[e0] at hver
 unfold fS at hv
 rw[hver] at hv
 simp only[] at hv
 have hb:=sP h.bnd.comVal (ax c) E.opn[j].snap.toNat (by omega)
 unfold lK at hv
 split at hv
 ·cases hv
 ·cases hv;omega
theorem mh {S:aJ}{f g:Nat→Int×Option Int}(h:∀ c,c<60→e7 (g c) (f c)):dk S g 60=dk S f 60:=by
 unfold dk
 apply dJ
 intro c hc
 congr 1
 unfold cN
 cases S.wr c with
 |some v=>rfl
 |none=>
  simp only[]
  obtain⟨h1,h2⟩:=h c (by simpa using hc)
  cases hv:(g c).2 with
  |none=>rw[hv] at h1;rw[←h1];rfl
  |some v=>
   have:=h2 (by rw[hv];rfl)
   rw[←this,hv]
theorem oU {s:ByteArray}{R:List ay}{f g:Nat→Int×Option Int}(h:∀ c,c<60→e7 (g c) (f c)):∀ (n:Nat) (S:aJ) (fm:Nat→Option Int),cW s R g n S fm=cW s R f n S fm
 |0,S,fm=>by
  have e:jX s R g S fm=jX s R f S fm:=by unfold jX;rw[mh h]
  unfold cW
  rw[e]
 |n+1,S,fm=>by
  have e:jX s R g S fm=jX s R f S fm:=by unfold jX;rw[mh h]
  unfold cW
  rw[e]
  cases jX s R f S fm with
  |none=>rfl
  |some i=>
   simp only[]
   cases gb s i.env (R.getD i.rule (0,[],[])).2.2 with
   |none=>rfl
   |some q=>
    simp only[]
    rw[oU h n]
theorem dn.seen {X:ap}{F:dP}{E:bn}(h:dn X F E){S:bu}(hS:S∈E.opn){k:Nat}(hsn:(X.ses k).snap=S.snap):∀ c,c<60→e7 ((fun c=>aN (X.hist c) (X.ses k).snap) c) (fS E.com S.snap c):=by
 obtain⟨lo,hh⟩:=h.his
 intro c hc
 simp only[hsn]
 exact hh.at hS (h.pos hS).2.2.2 hc
def ql (s:ByteArray)(R:List ay)(E:bn)(n:Int):ByteArray×Int:=match dw E.opn n with
 |none=>(ByteArray.empty,6)
 |some S=>(eu (mD s R E.com S),0)
theorem bR.mat {i:Nat}{X:ap}{F:dP}{E:bn}(h:bR i X F E)(n:Int):wj X F n=ql X.src.2.1 X.src.2.2 E n:=by
 unfold wj ql
 rcases h.sim.find n with ⟨e1,_,e2⟩|⟨j,k,hj,hk,hn,hkn,e1,_,e2,hss,_⟩
 ·rw[e1,e2]
 ·rw[e1,e2]
  have hrel:=h.rel hj hk (hkn.trans hn.symm) hss
  simp only[]
  have e3:fO X k=dk (X.ses k) (fS E.com E.opn[j].snap) 60:=mh (h.sim.seen (List.getElem_mem hj) hss.snap)
  rw[e3,hrel.open h.rul]
def jh (s:ByteArray)(R:List ay)(E:bn)(n c:Int):(Int×Int×Int)×bn:=match eH E.opn n with
 |none=>((0,0,6),E)
 |some j=>if 0≤c∧c≤99 then (((de (mD s R E.com) (aD s R) (jc E.com) c.toNat (E.opn.getD j ⟨0,0,[],[]⟩)).1.1,(de (mD s R E.com) (aD s R) (jc E.com) c.toNat (E.opn.getD j ⟨0,0,[],[]⟩)).1.2,0),pq E j (de (mD s R E.com) (aD s R) (jc E.com) c.toNat (E.opn.getD j ⟨0,0,[],[]⟩)).2) else ((0,0,9),E)
theorem dn.nums {X:ap}{F:dP}{E:bn}(h:dn X F E):(E.opn.map (·.num)).Nodup:=by
 obtain⟨L,hs⟩:=h.sim
 have e:E.opn.map (·.num)=L.map (·.2.num):=by
  have h1:E.nf.opn.map (·.num)=(L.map (·.2)).map (·.num):=by rw[hs.opn]
  have h2:E.nf.opn.map (·.num)=E.opn.map (·.num):=by
   unfold bn.nf
   rw[List.map_map]
   rfl
  rw[←h2,h1,List.map_map]
  rfl
 rw[e]
 exact hs.nums
theorem bR.run {i:Nat}{X:ap}{F:dP}{E:bn}(h:bR i X F E)(n c:Int):(gO X F n c).1=(jh X.src.2.1 X.src.2.2 E n c).1∧bR (i+1) (gO X F n c).2.1 (gO X F n c).2.2 (jh X.src.2.1 X.src.2.2 E n c).2:=by
 have hfit:=h.fit.run F n c h.rul.prog
 have hmono:=h.mono (Nat.le_succ i)
 have hfd:=h.sim.find n
 rcases hfd with ⟨e1,e2,_⟩|⟨j,k,hj,hk,hn,hkn,e1,e2,_,hss,_⟩
 ·unfold gO jh
  rw[e1,e2]
  exact⟨rfl,hmono⟩
 ·by_cases hc:0≤c∧c≤99
  ·have hS:=List.getElem_mem hj
   have hpos:=fun S (hS:S∈E.opn)=>h.sim.pos hS
   have hgd:E.opn.getD j ⟨0,0,[],[]⟩=E.opn[j]:=by simp[List.getD,hj]
   have hrel:=h.rel hj hk (hkn.trans hn.symm) hss
   have erun:nM X F k c.toNat=cW X.src.2.1 X.src.2.2 (fS E.com E.opn[j].snap) c.toNat (X.ses k) (F k):=oU (h.sim.seen hS hss.snap) _ _ _
   obtain⟨r1,r2⟩:=vH h.rul c.toNat hrel
   have rb:=yY h.rul c.toNat hrel (a:=E.opn[j].wr.length) (b:=E.opn[j].fired.length) ⟨Nat.le_refl _,Nat.le_refl _,h.bnd.wrVal _ hS⟩
   have rok:=sL h.rul.prog c.toNat (X.ses k) (F k) hrel.ok
   unfold gO at hfit ⊢
   unfold jh
   rw[e1] at hfit
   rw[e1,e2]
   simp only[] at hfit ⊢
   rw[if_pos hc] at hfit
   rw[if_pos hc,if_pos hc]
   rw[hgd]
   rw[erun] at hfit ⊢
   obtain⟨RP,hRP⟩:∃ RP,RP=cW X.src.2.1 X.src.2.2 (fS E.com E.opn[j].snap) c.toNat (X.ses k) (F k):=⟨_,rfl⟩
   obtain⟨RD,hRD⟩:∃ RD,RD=de (mD X.src.2.1 X.src.2.2 E.com) (aD X.src.2.1 X.src.2.2) (jc E.com) c.toNat E.opn[j]:=⟨_,rfl⟩
   rw[←hRP] at r1 r2 rok hfit ⊢
   rw[←hRD] at r1 r2 rb ⊢
   have hnum:RP.2.1.num=E.opn[j].num:=by rw[rok.num,hkn,hn]
   have hnum2:RD.2.num=E.opn[j].num:=by
    have:RP.2.1.num=RD.2.num:=r2.ses.num
    rw[←this,hnum]
   have hmem:∀ S'∈(pq E j RD.2).opn,S'=RD.2∨(S'∈E.opn∧S'.num≠n):=fun S' hS'=>by
    obtain⟨q,hq,e⟩:=List.mem_iff_getElem.mp hS'
    have hq2:q<E.opn.length:=by simpa [pq] using hq
    have e':(E.opn.set j RD.2)[q]'(by simpa using hq2)=S':=e
    rw[List.getElem_set] at e'
    by_cases ej:j=q
    ·rw[if_pos ej] at e'
     exact .inl e'.symm
    ·rw[if_neg ej] at e'
     refine .inr ⟨by rw[←e'];exact List.getElem_mem hq2,fun en=>ej ?_⟩
     have hnd:=h.sim.nums
     rw[List.nodup_iff_pairwise_ne,List.pairwise_iff_getElem] at hnd
     rw[←e'] at en
     rcases Nat.lt_trichotomy j q with hlt|he|hlt
     ·have hne:=hnd j q (by simpa using hj) (by simpa using hq2) hlt
      simp only[List.getElem_map] at hne
      exact absurd (hn.trans en.symm) hne
     ·exact he
     ·have hne:=hnd q j (by simpa using hq2) (by simpa using hj) hlt
      simp only[List.getElem_map] at hne
      exact absurd (en.trans hn.symm) hne
   refine⟨by rw[r1],⟨?_,?_,?_,?_⟩,hfit,⟨fun S' hS'=>?_,fun S' hS'=>?_,h.bnd.comEach,h.bnd.comVal⟩,h.rul⟩
   ·obtain⟨L,hs⟩:=h.sim.sim
    rcases hs.find n with ⟨f1,_⟩|⟨q,hq,hq2,eq,hqn,f1,f2,_⟩
    ·have:aM (X.full E.com) n=aM X n:=rfl
     rw[this,e1] at f1
     cases f1
    ·have g1:aM (X.full E.com) n=aM X n:=rfl
     rw[g1,e1] at f1
     have g2:eH E.nf.opn n=eH E.opn n:=lu _ _
     rw[g2,e2] at f2
     cases f2
     have hLk:L[j].1=k:=by simpa using f1.symm
     have hL2:L[j].2=E.opn[j].nf:=by
      rw[←eq]
      simp[bn.nf]
     obtain⟨L',hs'⟩:=hs.set hq (P':=RP.2.1) (S':=RD.2.nf) r2.ses (by rw[hL2];exact hnum2) (by rw[hL2];exact r2.snap)
     rw[hLk,←Eb] at hs'
     exact⟨L',hs'⟩
   ·obtain⟨lo,hh⟩:=h.sim.his
    refine⟨lo,hh.same rfl rfl (fun S' hS'=>?_)⟩
    rcases hmem S' hS' with e|⟨e,_⟩
    ·exact .inr ⟨E.opn[j],hS,by rw[e];exact r2.snap⟩
    ·exact .inr ⟨S',e,rfl⟩
   ·exact h.sim.kept.same rfl rfl rfl
   ·intro S' hS' q hq hqn
    by_cases eq:q=k
    ·subst eq
     have a1:(X.setSes q RP.2.1).ses q=RP.2.1:=aW _ _ _
     rw[a1] at hqn
     rcases hmem S' hS' with e|⟨e,hne⟩
     ·show kD X.src.2.1 X.src.2.2 E.com (cI X.ses q RP.2.1 q) (cI F q RP.2.2 q) S'
      rw[aW,aW,e]
      exact r2.fire
     ·exact absurd (by rw[←hqn,hnum,hn]) hne
    ·have a1:(X.setSes k RP.2.1).ses q=X.ses q:=bF _ _ _ eq
     rw[a1] at hqn
     rcases hmem S' hS' with e|⟨e,hne⟩
     ·exfalso
      rw[e,hnum2,hn] at hqn
      have hn1:=(hpos _ hS).1
      rcases h.fit.uniq q k hq hk (by rw[hqn,hkn]) with h0|h0
      ·omega
      ·exact eq h0
     ·show kD X.src.2.1 X.src.2.2 E.com (cI X.ses k RP.2.1 q) (cI F k RP.2.2 q) S'
      rw[bF _ _ _ eq,bF _ _ _ eq]
      exact h.sim.fire S' e q hq hqn
   ·rcases hmem S' hS' with e|⟨e,_⟩
    ·rw[e];exact rb.val
    ·exact h.bnd.wrVal S' e
   ·rcases hmem S' hS' with e|⟨e,_⟩
    ·rw[e]
     have h1:=rb.fired
     have h2:=h.bnd.firLen _ hS
     omega
    ·have:=h.bnd.firLen S' e
     omega
  ·unfold gO jh
   rw[e1,e2]
   simp only[]
   rw[if_neg hc,if_neg hc]
   exact⟨rfl,hmono⟩
theorem q6.sub {i:Nat}{E E':bn}(h:q6 i E)(h1:∀ S∈E'.opn,S∈E.opn)(h2:E'.com=E.com):q6 i E':=⟨fun S hS=>h.wrVal S (h1 S hS),fun S hS=>h.firLen S (h1 S hS),by rw[h2];exact h.comEach,by rw[h2];exact h.comVal⟩
theorem q6.add {i:Nat}{E:bn}(h:q6 i E)(k:Nat)(p:Wr)(hp:-1≤p.2∧p.2≤9):q6 i (jd E k p):=by
 have hmem:∀ S∈(jd E k p).opn,S∈E.opn∨∃ S0∈E.opn,S=S0.add p:=by
  intro S hS
  obtain⟨j,hj,rfl⟩:=List.mem_iff_getElem.mp hS
  have hj2:j<E.opn.length:=by simpa [jd] using hj
  simp only[jd,List.getElem_modify]
  split
  ·exact .inr ⟨_,List.getElem_mem hj2,rfl⟩
  ·exact .inl (List.getElem_mem hj2)
 refine⟨fun S hS=>?_,fun S hS=>?_,h.comEach,h.comVal⟩
 ·rcases hmem S hS with e|⟨S0,e,rfl⟩
  ·exact h.wrVal S e
  ·intro q hq
   simp only[bu.add,List.mem_append,List.mem_singleton] at hq
   rcases hq with hq|rfl
   ·exact h.wrVal S0 e q hq
   ·exact hp
 ·rcases hmem S hS with e|⟨S0,e,rfl⟩
  ·exact h.firLen S e
  ·exact h.firLen S0 e
theorem bR.src {i:Nat}{X X':ap}{F:dP}{E:bn}(h:bR i X F E)(e:X'.src=X.src):gg X'.src.2.1 X'.src.2.2:=by rw[e];exact h.rul
theorem bR.open {i:Nat}{X:ap}{F:dP}{E:bn}(h:bR i X F E):(a8 X).1=(cG E).1∧bR (i+1) (a8 X).2 (cz X (a8 X).2 F) (cG E).2:=by
 obtain⟨h1,h2⟩:=h.sim.open
 refine⟨h1,h2,h.fit.open,?_,h.src (sD X)⟩
 have hb:=h.bnd.mono (Nat.le_succ i)
 unfold cG
 split
 ·exact hb
 ·refine⟨fun S hS=>?_,fun S hS=>?_,hb.comEach,hb.comVal⟩
  ·rcases List.mem_append.mp hS with hS|hS
   ·exact hb.wrVal S hS
   ·rw[List.mem_singleton] at hS
    rw[hS]
    intro q hq
    cases hq
  ·rcases List.mem_append.mp hS with hS|hS
   ·exact hb.firLen S hS
   ·rw[List.mem_singleton] at hS
    rw[hS]
    exact Nat.zero_le _
theorem bR.put {i:Nat}{X:ap}{F:dP}{E:bn}(h:bR i X F E)(n:Int)(s:ByteArray):(cq X n s).1=(fB E n s).1∧bR (i+1) (cq X n s).2 (cz X (cq X n s).2 F) (fB E n s).2:=by
 obtain⟨h1,h2⟩:=h.sim.put n s
 refine⟨h1,h2,h.fit.put n s,?_,h.src (uX X n s)⟩
 have hb:=h.bnd.mono (Nat.le_succ i)
 unfold fB
 cases eH E.opn n with
 |none=>exact hb
 |some k=>
  cases hf:eR s with
  |false=>exact hb
  |true=>
   refine hb.add k _ ?_
   simp only[eR,Bool.and_eq_true,bN,decide_eq_true_eq] at hf
   show -1≤bt s 2 - 48∧bt s 2 - 48≤9
   omega
theorem bR.clear {i:Nat}{X:ap}{F:dP}{E:bn}(h:bR i X F E)(n:Int)(s:ByteArray):(aX X n s).1=(cU E n s).1∧bR (i+1) (aX X n s).2 (cz X (aX X n s).2 F) (cU E n s).2:=by
 obtain⟨h1,h2⟩:=h.sim.clear n s
 refine⟨h1,h2,h.fit.clear n s,?_,h.src (qD X n s)⟩
 have hb:=h.bnd.mono (Nat.le_succ i)
 unfold cU
 cases eH E.opn n with
 |none=>exact hb
 |some k=>
  cases hf:eE s with
  |false=>exact hb
  |true=>exact hb.add k _ (by simp)
theorem bR.abort {i:Nat}{X:ap}{F:dP}{E:bn}(h:bR i X F E)(n:Int):(aY X n).1=(cV E n).1∧bR (i+1) (aY X n).2 (cz X (aY X n).2 F) (cV E n).2:=by
 obtain⟨h1,h2⟩:=h.sim.abort n
 refine⟨h1,h2,h.fit.abort n,?_,h.src (pl X n)⟩
 have hb:=h.bnd.mono (Nat.le_succ i)
 unfold cV
 cases eH E.opn n with
 |none=>exact hb
 |some k=>exact hb.sub (fun S hS=>jL hS) rfl
theorem bR.sweep {i:Nat}{X:ap}{F:dP}{E:bn}(h:bR i X F E):(cn X).1=(dZ E).1∧bR (i+1) (cn X).2 F (dZ E).2:=by
 obtain⟨h1,h2⟩:=h.sim.sweep h.fit
 exact⟨h1,h2,h.fit.sweep,(h.bnd.mono (Nat.le_succ i)).sub (fun S hS=>hS) rfl,h.rul⟩
theorem A7 (E:bn)(m:Nat):(eo E m).opn=E.opn∧(eo E m).com=E.com:=by
 unfold eo
 split <;> exact⟨rfl,rfl⟩
theorem bR.commit {i:Nat}{X:ap}{F:dP}{E:bn}(h:bR i X F E)(n:Int):(bI X n).1=(cK E n).1∧bR (i+1) (bI X n).2 (cz X (bI X n).2 F) (cK E n).2:=by
 obtain⟨h1,h2⟩:=h.sim.commit h.fit (fun S hS q hq=>(h.bnd.wrVal S hS q hq).1) n
 refine⟨h1,h2,h.fit.commit n,?_,h.src (gZ X n).2.2.1⟩
 have hb:=h.bnd.mono (Nat.le_succ i)
 unfold cK
 cases hf:dw E.opn n with
 |none=>exact hb
 |some S=>
  have hS:S∈E.opn:=List.mem_of_find?_eq_some hf
  simp only[]
  cases d8 E S with
  |true=>exact hb.sub (fun S hS=>jL hS) rfl
  |false=>
   cases (aQ S.wr).isEmpty with
   |true=>exact hb.sub (fun S hS=>jL hS) rfl
   |false=>
    simp only[Bool.false_eq_true,if_false]
    obtain⟨o1,o2⟩:=A7 E (aQ S.wr).length
    split
    ·exact hb.sub (fun S hS=>by rw[o1] at hS;exact hS) o2
    ·refine⟨fun T hT=>hb.wrVal T ?_,fun T hT=>hb.firLen T ?_,fun l hl=>?_,fun l hl=>?_⟩
     ·have:=jL hT
      have h3:T∈(eo E (aQ S.wr).length).opn:=this
      rw[o1] at h3
      exact h3
     ·have:=jL hT
      have h3:T∈(eo E (aQ S.wr).length).opn:=this
      rw[o1] at h3
      exact h3
     ·have hl':l∈(eo E (aQ S.wr).length).com++[aQ S.wr]:=hl
      rw[o2] at hl'
      rcases List.mem_append.mp hl' with hl'|hl'
      ·exact hb.comEach l hl'
      ·rw[List.mem_singleton] at hl'
       rw[hl']
       exact ms _ 60
     ·have hl':l∈(eo E (aQ S.wr).length).com++[aQ S.wr]:=hl
      rw[o2] at hl'
      rcases List.mem_append.mp hl' with hl'|hl'
      ·exact hb.comVal l hl'
      ·rw[List.mem_singleton] at hl'
       rw[hl']
       intro q hq
       obtain⟨_,_,_,_,_,_,hm⟩:=lF hq
       exact hb.wrVal S hS q hm
def uE (com:List (List Wr))(S:bu):ap:=⟨((.bool false,0),ByteArray.empty,[]),S.num,cI (fun _=>.zero) 0 (Ae S),com.length,fun c=>(dM com (ax c) com.length).2,dA com⟩
def wH (com:List (List Wr))(S:bu):bn:=⟨0,com,List.replicate (sA com) (0,ByteArray.empty,0),[S.nf],S.num⟩
theorem Eh {S:bu}(h1:1≤S.num):df (Ae S) S.nf:=by
 refine⟨rfl,h1,rfl,fun c _=>rfl,rfl,fun c _ k hk=>?_,rfl,rfl⟩
 show (match bc (ax c) S.wr with|some k=>S.snap+((k:Int)+1)|none=>0)=S.snap+((k:Int)+1)
 have:bc (ax c) S.wr=some k:=hk
 rw[this]
theorem v9 (com:List (List Wr))(S:bu):(uE com S).ses 0=Ae S:=aW (fun _=>aJ.zero) 0 (Ae S)
theorem FU {com:List (List Wr)}{S:bu}(h1:1≤S.num)(h0:0≤S.snap)(hl:S.snap≤com.length):g8 (uE com S) (wH com S) [(0,S.nf)]:=by
 refine { opn:=rfl,places:=by simp,lt:=by simp,ses:=?_,free:=?_,nums:=by simp,opened:=rfl,openedPos:=?_,numLe:=?_,snap:=?_,latest:=rfl,hist:=?_,histS:=?_,histLe:=?_,last:=fun c _=>rfl,room:=rfl,kept:=?_ }
 ·intro q hq
  rw[List.mem_singleton] at hq
  subst hq
  rw[v9]
  exact Eh h1
 ·intro k _ hk
  show (cI (fun _=>aJ.zero) 0 (Ae S) k).num=0
  rw[bF _ _ _ (fun e=>hk (0,S.nf) (by simp) e.symm)]
  rfl
 ·show 0≤S.num
  omega
 ·intro q hq
  rw[List.mem_singleton] at hq
  subst hq
  exact Int.le_refl _
 ·intro q hq
  rw[List.mem_singleton] at hq
  subst hq
  exact⟨h0,hl⟩
 ·intro c _ t ht
  have:=congrArg Prod.snd (iG com c t ht)
  rw[gn] at this
  exact this
 ·intro c _ t ht
  exact congrArg Prod.fst (iG com c t ht)
 ·intro c _ p hp
  exact (lE hp).2
 ·show keptN (uE com S) 60=(List.replicate (sA com) ((0:Int),((ByteArray.empty,0):Wr))).length
  rw[List.length_replicate]
  exact mi (uE com S) com
theorem nz (com:List (List Wr))(S:bu):fO (uE com S) 0=fq com S:=by
 unfold fO
 rw[v9]
 rfl
theorem y6 {sn:Int}{P:aJ}{fm:Nat→Option Int}(y:Nat)(com:List (List Wr))(S:bu)(p:Value)(a:Option Addr)(cp:Nat)(cs:List Value)(fc fp:List Nat)(s:ByteArray)(R:List ay)(ra:Option Addr)(rc:Nat)(xs:List Value)(w:World)
  (hE:iq y com S p a cp cs fc fp w) (hA:lV y s R ra rc xs w) (hk:oD com S) (hR:gg s R) (hrel:iA s R com sn P fm S) (hcv:∀ l∈com,∀ q∈l,-1≤q.2∧q.2≤9) (hce:∀ l∈com,l.length≤60) (hwv:∀ q∈S.wr,-1≤q.2∧q.2≤9) (hFl:S.fired.length≤1000000000000) :
  Calls Tryz.prog 63 #[.pointer (some ⟨y,0,none⟩),p] w fun e w'=>∃ v,e=.returned v∧w'.ownsRow w.heap.size 136 6 v (mD s R com S).length (aI (mD s R com S))∧w.grownBy w' none:=by
 have hnum:1≤S.num:=hrel.ses.pos
 have hs:=FU hnum hk.snap hk.snapLe
 have hq:((0:Nat),S.nf)∈[((0:Nat),S.nf)]:=by simp
 have hwf:kE (wH com S):=by
  refine⟨by have:=hk.comLen;show com.length≤_;omega,fun l hl=>by have:=hce l hl;omega,hcv,by simp[wH],?_,?_,?_⟩
  ·intro T hT
   have:T=S.nf:=by simpa [wH] using hT
   rw[this]
   exact⟨hk.snap,hk.snapLe⟩
  ·intro T hT
   have:T=S.nf:=by simpa [wH] using hT
   rw[this]
   exact hk.wrLen
  ·intro T hT
   have:T=S.nf:=by simpa [wH] using hT
   rw[this]
   exact hwv
 have hsees:∀ c,(du com S c).1≤9:=fun c=>(hwf.sees (S:=S.nf) (by simp[wH]) c).2
 have hFO:=hrel.facts
 have hFl60:(fq com S).length≤60:=iC _ _ _
 have hz:bA (-1) s (fq com S) R R.length=bA 0 s (fq com S) R R.length:=zj (fun r hr=>(hR.all.walk r hr).conds) hR.all.bound _ (Nat.le_refl _)
 have hin:=t7 hFO hFl60 hR.all.walk hR.all.nine
 have hsort:pP (fq com S):=by
  have:=A9 (uE com S) 0
  rw[nz] at this
  exact this
 obtain⟨hso,hrl⟩:=pK hsort hFO hFl60 (fun r hr=>(hR.all.walk r hr).conds) R.length (Nat.le_refl _)
 have hle:=kW hFl60 hR.all.walk R.length (Nat.le_refl _)
 have h9:=hR.all.nine
 have hfl:nI (bA 0 s (fq com S) R R.length) (Ft com S) (bA 0 s (fq com S) R R.length).length=jx s (fq com S) R (Ft com S) R.length:=by
  unfold nI jx
  rw[List.take_length]
 have hM:mD s R com S=bL (i9 (ep s R)) (nI (bA 0 s (fq com S) R R.length) (Ft com S) (bA 0 s (fq com S) R R.length).length):=by
  rw[hfl]
  rfl
 rw[hM,dQ]
 refine Cj y com S p a cp cs fc fp s R ra rc xs (fq com S) (bA 0 s (fq com S) R R.length) (i9 (ep s R)) (Ft com S) w hE hA hk ?_ ?_ ?_ (vh _) (by omega) (fun ii hii=>?_) ?_
 ·refine af (fun ii hii W hW=>?_)
  have a1:=hin ii hii
  have a2:=hrl ii hii
  exact zn y com S p a cp cs fc fp ii W (hE.kept hW) hk (by omega) (by omega) hFl
 ·refine af ?_
  have:=rZ y com S p a cp cs fc fp w hE hk.snap hk.snapLe (by have:=hk.comLen;omega) hk.each hk.wrLen hsees
  obtain⟨e1,e2⟩:=Br hs hq
  rw[nz] at e1 e2
  have f1:(cH com S 60).map Value.string=gI (fq com S):=e1
  have f2:(cH com S 60).length=(fq com S).length:=e2
  rw[f1,f2] at this
  exact this
 ·refine af (fun fa fcp W hW hfr=>?_)
  have hAW:=hA.kept hW
  have:=E9 s R (fq com S) ra fa rc fcp xs W hR.all.size hR.all.ok hR.all.nine hR.all.five hFO hFl60 hAW.row hAW.parts hfr
  rw[hz] at this
  exact this
 ·have a1:=hin ii hii
  have a2:=hrl ii hii
  exact⟨by omega,a2,by omega⟩
 ·intro k hk1 ii hk2 hik
  have hp:=List.pairwise_iff_getElem.mp hso ii k hk2 hk1 hik
  have m1:∀ q∈(bA 0 s (fq com S) R R.length)[k].facts,q∈fO (uE com S) 0:=fun q hq=>by rw[nz];exact pW hFO (List.getElem_mem hk1) q hq
  have m2:∀ q∈(bA 0 s (fq com S) R R.length)[ii].facts,q∈fO (uE com S) 0:=fun q hq=>by rw[nz];exact pW hFO (List.getElem_mem hk2) q hq
  obtain⟨t1,t2⟩:=yt hs hq m1
  obtain⟨u1,u2⟩:=yt hs hq m2
  have t3:gP com S (bA 0 s (fq com S) R R.length)[k].facts=jb com.length S.snap (b9 (bA 0 s (fq com S) R R.length)[k].facts):=t2
  have u3:gP com S (bA 0 s (fq com S) R R.length)[ii].facts=jb com.length S.snap (b9 (bA 0 s (fq com S) R R.length)[ii].facts):=u2
  rw[t3,u3]
  refine yl hk.snap hk.snapLe t1 u1 _ _ _ _ _ ⟨fun hne=>?_,fun he=>?_⟩
  ·rcases hp with hp|⟨hp,_⟩ <;> omega
  ·rcases hp with hp|⟨_,hp⟩
   ·omega
   ·rw[BA]
    exact yJ _ _ hp
def QD (s:ByteArray)(R:List ay)(rv:Value):eZ:=iv fun w=>jz w 0 s rv R
theorem QD.framed (s:ByteArray)(R:List ay)(v:Value):bU (QD s R v):=iv.framed _
theorem QD.within (s:ByteArray)(R:List ay)(v:Value):bV (QD s R v):=iv.within _
theorem QD.rules {s:ByteArray}{R:List ay}{rv:Value}{y:Nat}{w:World}{f:List Nat}(h:QD s R rv w f)(hc:w.cell? ⟨y,0,none⟩=some rv):∃ ra rc xs,lV y s R ra rc xs w:=by
 obtain⟨xs,h3,h4⟩:=h.now
 obtain⟨ra,rm,rc,rfl⟩:=an h3
 have em:=ar h3
 subst em
 exact⟨ra,rc,xs,hc,h3,h4⟩
theorem bJ.rulD {s:ByteArray}{R:List ay}{y:Nat}{E:bn}{w:World}{f:List Nat}(h:bJ (QD s R) y E w f):∃ ra rc xs,lV y s R ra rc xs w:=by
 obtain⟨rv,cv,kv,ov,cs,ps,f1,f2,⟨hb,rfl⟩,⟨f3,f4,hq,_⟩,_⟩:=h
 exact hq.rules (by simp[World.cell?,hb])
theorem bR.see {i:Nat}{X:ap}{F:dP}{E:bn}(h:bR i X F E)(hi:i≤1000000000){S:bu}(hS:S∈E.opn):oD E.com S:=
 ⟨(h.sim.pos hS).2.2.1,(h.sim.pos hS).2.2.2,by have:=h.comLen;omega,fun l hl=>by have:=h.bnd.comEach l hl;omega,by have:=h.wrLen hS;omega⟩
theorem CH {s:ByteArray}{R:List ay}{com:List (List Wr)}{sn:Int}{P:aJ}{fm:Nat→Option Int}{S:bu}(h:iA s R com sn P fm S)(hR:gg s R){i:In}(hi:i∈mD s R com S):i.rule<R.length∧i.rule≤9∧i.facts.length≤3∧∀ n v,i.env n=some v→0≤v∧v≤9:=by
 have h9:=hR.all.nine
 obtain⟨a,b,c⟩:=mE h.facts (iC _ _ _) hR.all.walk (tN hi)
 exact⟨a,by omega,b,c⟩
theorem FB {s:ByteArray}{R:List ay}{com:List (List Wr)}{S:bu}(hR:gg s R):(mD s R com S).length≤10000000000:=by
 unfold mD
 rw[dQ]
 have h1:=kW (iC (Ae S) (fS com S.snap) 60) hR.all.walk R.length (Nat.le_refl _)
 have h2:(jx s (fq com S) R (Ft com S) R.length).length≤(bA 0 s (fq com S) R R.length).length:=List.length_filter_le _ _
 have h9:=hR.all.nine
 have h3:(bA 0 s (fq com S) R R.length).length=(bA 0 s (dk (Ae S) (fS com S.snap) 60) R R.length).length:=rfl
 omega
theorem xE {i y:Nat}{X:ap}{F:dP}{E:bn}{f:List Nat}{w:World}(n:Int)(hd:bJ (QD X.src.2.1 X.src.2.2) y E w f)(h:bR i X F E)(hi:i≤1000000000):
  Calls Tryz.prog 32 #[.pointer (some ⟨y,0,none⟩),.int .i64 n] w fun e w'=>e=.returned (.tuple #[.string (ql X.src.2.1 X.src.2.2 E n).1,.int .i64 (ql X.src.2.1 X.src.2.2 E n).2])∧w.grownBy w' none:=by
 have hwf:=h.wf (by omega)
 unfold ql
 rcases h.sim.find n with ⟨_,_,e2⟩|⟨j,k,hj,hk,hn,hkn,_,_,e2,hss,_⟩
 ·rw[e2]
  exact rg _ y E f n w hd hwf e2
 ·rw[e2]
  have hS:=List.getElem_mem hj
  have hrel:=h.rel hj hk (hkn.trans hn.symm) hss
  obtain⟨ra,rc,xs,hA⟩:=hd.rulD
  refine qY _ y E f n E.opn[j] _ w hd hwf e2 (fun ii hii=>?_) (FB h.rul) (af (fun p a cp cs fc fp hE=>?_))
  ·have:=CH hrel h.rul hii
   exact⟨by omega,this.2.1⟩
  ·exact y6 y E.com E.opn[j] p a cp cs fc fp _ _ ra rc xs w hE hA (h.see hi hS) h.rul hrel h.bnd.comVal h.bnd.comEach (h.bnd.wrVal _ hS) (by have:=h.bnd.firLen _ hS;omega)
theorem CU {i y:Nat}{X:ap}{F:dP}{E:bn}{f:List Nat}{w:World}(n c:Int)(hd:bJ (QD X.src.2.1 X.src.2.2) y E w f)(hnd:f.Nodup)(h:bR i X F E)(hi:i≤1000000000):
  Calls Tryz.prog 34 #[.pointer (some ⟨y,0,none⟩),.int .i64 n,.int .i64 c] w fun e w'=>e=.returned (.tuple #[.int .i64 (jh X.src.2.1 X.src.2.2 E n c).1.1,.int .i64 (jh X.src.2.1 X.src.2.2 E n c).1.2.1,.int .i64 (jh X.src.2.1 X.src.2.2 E n c).1.2.2])∧cO (bJ (QD X.src.2.1 X.src.2.2) y (jh X.src.2.1 X.src.2.2 E n c).2) f w w':=by
 have hwf:=h.wf (by omega)
 have hsame:cO (bJ (QD X.src.2.1 X.src.2.2) y E) f w w:=⟨f,hd,hnd,fun _ hx=>.inl hx,Fr.refl _ _⟩
 unfold jh
 rcases h.sim.find n with ⟨_,e1,e2⟩|⟨j,k,hj,hk,hn,hkn,_,e1,e2,hss,_⟩
 ·rw[e1]
  refine (zA _ y E f n c w hd hwf e2).mono ?_
  rintro e w' ⟨rfl,rfl⟩
  exact⟨rfl,hsame⟩
 ·rw[e1]
  simp only[]
  by_cases hc:0≤c∧c≤99
  ·rw[if_pos hc]
   have hS:=List.getElem_mem hj
   have hgd:E.opn.getD j ⟨0,0,[],[]⟩=E.opn[j]:=by simp[List.getD,hj]
   rw[hgd]
   have hrel:=h.rel hj hk (hkn.trans hn.symm) hss
   obtain⟨_,g1,g2⟩:=iM e1
   have hcc:((c.toNat:Nat):Int)=c:=Int.toNat_of_nonneg hc.1
   have hR:=h.rul
   have hsee:=h.see hi hS
   have hwl:=h.wrLen hS
   have hfl:=h.bnd.firLen _ hS
   have hcv:=h.bnd.comVal
   have hce:=h.bnd.comEach
   have hb0:xU (400*i) (100*i) E.opn[j]:=⟨hwl,hfl,h.bnd.wrVal _ hS⟩
   have hseeS:∀ S:bu,S.snap=E.opn[j].snap→S.wr.length≤1000000000000→oD E.com S:=fun S h1 h2=>⟨by rw[h1];exact hsee.snap,by rw[h1];exact hsee.snapLe,hsee.comLen,hsee.each,by omega⟩
   clear h hss hkn hk
   generalize X.src.2.1=s at*
   generalize X.src.2.2=R at*
   have hout:∀ {S:bu} {ii:In} {l:List In},mD s R E.com S=ii::l→ii∈mD s R E.com S:=fun e=>by rw[e];simp
   have:=Ax (QD s R) (QD.framed s R) (QD.within s R) y E f n c.toNat j w hd hnd hwf.opnLen hj g1 g2 (by omega) (mD s R E.com) (aD s R) (jc E.com)
    (fun q S=>q≤100∧(∃ P fm,iA s R E.com E.opn[j].snap P fm S)∧xU (400*i+4*q) (100*i+q) S)
    ⟨Nat.zero_le _,⟨_,_,hrel⟩,hb0⟩
    (af (fun q S p ac cc cs fc fp rv f3 W hO hE hcell hQ=>by
     obtain⟨h1,⟨P,fm,h2⟩,h3⟩:=hO
     obtain⟨ra,rc,xs,hA⟩:=hQ.rules hcell
     have a1:=h3.wr
     have a2:=h3.fired
     exact y6 y E.com S p ac cc cs fc fp s R ra rc xs W hE hA (hseeS S h2.snap (by omega)) hR h2 hcv hce h3.val (by omega)))
    (af (fun q S ii l rv f3 W hO hM hcell hQ=>by
     obtain⟨h1,⟨P,fm,h2⟩,h3⟩:=hO
     obtain⟨ra,rc,xs,hA⟩:=hQ.rules hcell
     obtain⟨b1,b2,b3,b4⟩:=CH h2 hR (hout hM)
     obtain⟨a1,m1,c1,a2,m2,c2,x0,x1,x2,_,k2⟩:=iE R xs hA.parts ii.rule b1
     obtain⟨g,rfl,_,_,hl,hcell2⟩:=aE hA.row (by omega)
     have em:=ar k2
     subst em
     have h9:=hR.all.nine
     obtain⟨ac1,ac2⟩:=hR.prog.acts _ (List.getElem_mem b1)
     have e:R.getD ii.rule (0,[],[])=R[ii.rule]:=by simp[List.getD,List.getElem?_eq_getElem b1]
     have:=zx s ii R[ii.rule].2.2 y g R.length rc c2 a2 W hR.all.size (by omega) ac1 b4 (by omega) (by omega) (World.block_lt_of_cell? W _ hA.cell) hl hA.cell (hcell2 _ _ x2) k2
     unfold aD
     rw[e]
     exact this))
    (af (fun q S ii l p ac cc cs fc fp W hO hM hE=>by
     obtain⟨h1,⟨P,fm,h2⟩,h3⟩:=hO
     obtain⟨b1,b2,b3,b4⟩:=CH h2 hR (hout hM)
     have a1:=h3.wr
     exact zd y E.com S p ac cc cs fc fp ii W hE (hseeS S h2.snap (by omega)) (by omega) b2))
    (af (fun q S ii l o hq hO hM hA=>by
     obtain⟨h1,⟨P,fm,h2⟩,h3⟩:=hO
     have hii:=tN (hout hM)
     rw[xP hR hii] at hA
     have hst:=h2.step hR hii hA
     have hbn:=(h2.bnd hR hii hA h3 (jc E.com S ii)).1
     exact⟨by omega,⟨_,_,hst⟩,hbn⟩))
    (af (fun q S hO=>by
     obtain⟨h1,_,h3⟩:=hO
     have a1:=h3.wr
     have a2:=h3.fired
     exact⟨by omega,by omega⟩))
    (af (fun ii q hA=>by
     unfold aD at hA
     have hl:=qT (-1) s ii.env (R.getD ii.rule (0,[],[])).2.2 _ (Nat.le_refl _) q (by rw[List.take_length];exact hA)
     have hK:(R.getD ii.rule (0,[],[])).2.2.length≤4:=by
      by_cases hr:ii.rule<R.length
      ·have e:R.getD ii.rule (0,[],[])=R[ii.rule]:=by simp[List.getD,List.getElem?_eq_getElem hr]
       rw[e]
       exact (hR.prog.acts _ (List.getElem_mem hr)).2
      ·have e:R.getD ii.rule (0,[],[])=(0,[],[]):=by
        rw[List.getD_eq_getElem?_getD,List.getElem?_eq_none (by omega)]
        rfl
       rw[e]
       simp
     omega))
   rw[hcc] at this
   exact this
  ·rw[if_neg hc]
   refine (AZ _ y E f n c _ w hd hwf e2 (by omega)).mono ?_
   rintro e w' ⟨rfl,rfl⟩
   exact⟨rfl,hsame⟩
end Go.Proofs.YthlhbjnkohinmaaGreat
