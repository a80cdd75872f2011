import Derived.Test.YthlhbjnkohinmaaGreatP42
import Derived.Test.YthlhbjnkohinmaaGreatP39
namespace Go.Proofs.YthlhbjnkohinmaaGreat
set_option maxRecDepth 100000
set_option maxHeartbeats 8000000
open Go.RowKit
theorem Av (ws:List (Nat×Option Int)):∀ S:aI,puts S.bare ws=(puts S ws).bare:=by
 induction ws with
 |nil=>intro S;rfl
 |cons q ws ih=>
  intro S
  exact ih (S.put q.1 q.2)
theorem BA (s:ByteArray) (R:List ax) (f:Nat→Int×Option Int) (S:aI) (fm:Nat→Option Int):jF s R f S.bare fm=jF s R f S fm:=rfl
theorem si (s:ByteArray) (R:List ax) (f:Nat→Int×Option Int):∀ (n:Nat) (S:aI) (fm:Nat→Option Int),cU s R f n S.bare fm=((cU s R f n S fm).1,(cU s R f n S fm).2.1.bare,(cU s R f n S fm).2.2)
 |0,S,fm=>rfl
 |n+1,S,fm=>by
  unfold cU
  rw[BA]
  cases jF s R f S fm with
  |none=>rfl
  |some i=>
   simp only[]
   cases fZ s i.env (R.getD i.rule (0,[],[])).2.2 with
   |none=>rfl
   |some q=>
    simp only[]
    rw[Av,si s R f n]
    split <;> rfl
theorem CI (ws:List (Nat×Option Int)):∀ S:aI,(puts S ws).num=S.num:=by
 induction ws with
 |nil=>intro S;rfl
 |cons q ws ih=>intro S;exact ih (S.put q.1 q.2)
structure Fm (S S':aI) (f:Nat→Int×Option Int) (n:Nat):Prop where
 num:S'.num=S.num
 snap:S'.snap=S.snap
 made:S.made≤S'.made∧S'.made≤S.made+4*n
 ok:yC S' f
theorem sX {s:ByteArray} {R:List ax} {f:Nat→Int×Option Int} (hR:nG s R):∀ (n:Nat) (S:aI) (fm:Nat→Option Int),yC S f→Fm S (cU s R f n S fm).2.1 f n
 |0,S,fm,h=>⟨rfl,rfl,by show S.made≤S.made∧S.made≤S.made+4*((0:Nat):Int);omega,h⟩
 |n+1,S,fm,h=>by
  have same:Fm S S f (n+1):=⟨rfl,rfl,by omega,h⟩
  unfold cU
  cases hi:jF s R f S fm with
  |none=>exact same
  |some i=>
   simp only[]
   cases ho:fZ s i.env (R.getD i.rule (0,[],[])).2.2 with
   |none=>exact same
   |some q=>
    simp only[]
    have hr:i.rule<R.length:=(mU h.facts (iv _ _ _) hR.walk (v8 hi)).1
    have e:R.getD i.rule (0,[],[])=R[i.rule]:=by simp[List.getD,List.getElem?_eq_getElem hr]
    rw[e] at ho
    obtain⟨a1,a2⟩:=hR.acts _ (List.getElem_mem hr)
    have hlen:=kR s i.env R[i.rule].2.2 _ (Nat.le_refl _) q (by rw[List.take_length];exact ho)
    have hdig:=mV a1 _ (Nat.le_refl _) q (by rw[List.take_length];exact ho)
    obtain⟨m1,m2,_⟩:=nY q.1 S
    have hw:yC (puts S q.1) f:=h.puts (fun x hx=>(hdig x hx).2)
    have hnum:=CI q.1 S
    cases q.2 with
    |true=>
     refine⟨hnum,m2,?_,hw⟩
     show S.made≤(puts S q.1).made∧(puts S q.1).made≤S.made+4*((n+1:Nat):Int)
     rw[m1]
     omega
    |false=>
     have ih:=sX hR n (puts S q.1) (cH fm (bW i) (some (b9 i.facts))) hw
     refine⟨ih.num.trans hnum,ih.snap.trans m2,?_,ih.ok⟩
     have h1:=ih.made
     rw[m1] at h1
     show S.made≤(cU s R f n (puts S q.1) (cH fm (bW i) (some (b9 i.facts)))).2.1.made∧(cU s R f n (puts S q.1) (cH fm (bW i) (some (b9 i.facts)))).2.1.made≤S.made+4*((n+1:Nat):Int)
     omega
def oq (X:ap) (F:dN) (k n:Nat):(Nat×Int)×aI×(Nat→Option Int):=cU X.src.2.1 X.src.2.2 (fun c=>aM (X.hist c) (X.ses k).snap) n (X.ses k) (F k)
theorem wT (X:ap) (F:dN) (k n:Nat):oq X.plain F k n=((oq X F k n).1,(oq X F k n).2.1.bare,(oq X F k n).2.2):=si _ _ _ _ _ _
def gM (X:ap) (F:dN) (n c:Int):(Int×Int×Int)×ap×dN:=match aL X n with
 |none=>((0,0,6),X,F)
 |some k=>if 0≤c∧c≤99 then (((oq X F k c.toNat).1.1,(oq X F k c.toNat).1.2,0),X.setSes k (oq X F k c.toNat).2.1,cH F k (oq X F k c.toNat).2.2) else ((0,0,9),X,F)
theorem eO.wok {i:Nat} {X:ap} (h:eO i X) {k:Nat} (hk:k<8):yC (X.ses k) (fun c=>aM (X.hist c) (X.ses k).snap):=
 ⟨h.wr k hk,fun c v hv=>(h.his c _ (nZ hv)).2 v hv⟩
theorem eO.run {i:Nat} {X:ap} (h:eO i X) (F:dN) (n c:Int) (hR:nG X.src.2.1 X.src.2.2):eO (i+1) (gM X F n c).2.1:=by
 unfold gM
 cases hf:aL X n with
 |none=>exact h.mono (Nat.le_succ i)
 |some k=>
  simp only[]
  split
  ·rename_i hc
   have hk:=(ed hf).1
   have hr:=sX hR c.toNat (X.ses k) (F k) (h.wok hk)
   have hm:=h.made k hk
   refine (h.mono (Nat.le_succ i)).setSes hk (.inl hr.num) ?_ ?_ hr.ok.wr
   ·have:=h.snap k hk
    have e:=hr.snap
    show 0≤(cU _ _ _ _ _ _).2.1.snap∧(cU _ _ _ _ _ _).2.1.snap≤X.latest
    rw[e]
    exact this
   ·have e:=hr.made
    show 0≤(cU _ _ _ _ _ _).2.1.made∧(cU _ _ _ _ _ _).2.1.made≤400*((i+1:Nat):Int)
    omega
  ·exact h.mono (Nat.le_succ i)
theorem qI {X:ap}:(mr X).Nodup↔∀ i j,i<j→j<8→∀ g,(X.ses i).mks=some g→(X.ses j).mks≠some g:=by
 unfold mr
 rw[List.nodup_iff_pairwise_ne,List.pairwise_filterMap,List.pairwise_iff_getElem]
 constructor
 ·intro h i j hij hj g hi e
  have:=h i j (by simp;omega) (by simpa using hj) hij g (by simpa using hi) g (by simpa using e)
  exact this rfl
 ·intro h i j hi hj hij b hb b' hb' e
  simp only[List.getElem_range] at hb hb'
  have hj8:j<8:=by simpa using hj
  subst e
  exact h i j hij hj8 b hb hb'
theorem cI.keep {w w':World} {b o:Nat} {S:aI} (h:cI w b o S) (hc:∀ i,o≤i→i<o+244→w'.cell? ⟨b,i,none⟩=w.cell? ⟨b,i,none⟩):cI w' b o S:=
 ⟨(hc _ (by omega) (by omega)).trans h.num,(hc _ (by omega) (by omega)).trans h.snap,(hc _ (by omega) (by omega)).trans h.cnt,fun c hl=>(hc _ (by omega) (by omega)).trans (h.made c hl),fun c hl=>(hc _ (by omega) (by omega)).trans (h.filled c hl),fun c hl=>(hc _ (by omega) (by omega)).trans (h.val c hl),fun c hl=>(hc _ (by omega) (by omega)).trans (h.tm c hl),(hc _ (by omega) (by omega)).trans h.mks,h.ok⟩
theorem fH.pat {x k:Nat} {X:ap} {kv:Nat→Value} {G:List Nat} {S':aI} {fm':Nat→Option Int} {m:Option Nat} {w w':World} (hk:k<8) (h:jq w x X kv) (hr:fH x (3+k*244) G S' fm' m w w'):jq w' x (X.setSes k { S' with mks:=m }) kv:=by
 obtain⟨cs,hb⟩:=h.block
 have hc:=hr.chg.cell
 refine⟨hr.chg.blk hb,(hc _ (by omega)).trans h.rules,(hc _ (by omega)).trans h.room,(hc _ (by omega)).trans h.opened,fun j hj=>?_,⟨(hc _ (by omega)).trans h.store.latest,fun c hl=>(hc _ (by omega)).trans (h.store.last c hl),fun c hl=>(hc _ (by omega)).trans (h.store.kept c hl)⟩⟩
 show cI w' x (3+j*244) (cH X.ses k { S' with mks:=m } j)
 by_cases e:j=k
 ·subst e
  rw[aW]
  exact hr.ses
 ·rw[bE _ _ _ e]
  exact (h.ses j hj).keep (fun i h1 h2=>hc i (by omega))
theorem kg.ran {x k:Nat} {X:ap} {F:dN} {w w':World} {f:List Nat} {S':aI} {fm':Nat→Option Int} {m:Option Nat} (h:kg x X F w f) (hn:f.Nodup) (hk:k<8) (hr:fH x (3+k*244) (X.ses k).mks.toList S' fm' m w w') :
  cL (kg x (X.setSes k { S' with mks:=m }) (cH F k fm')) f w w':=by
 have hwi:=kg.within _ _ _ h
 obtain⟨f0,f1,⟨kv,hP,fh,hE,rfl⟩,⟨f2,f3,⟨h2,rfl⟩,h3,rfl⟩,rfl⟩:=h
 have hmk:∀ g,(X.ses k).mks=some g→g∈mr X:=fun g hg=>gw.mpr ⟨k,hk,hg⟩
 rw[List.nodup_append] at hn
 obtain⟨n0,n1,d01⟩:=hn
 rw[List.nodup_append] at n1
 obtain⟨n2,n3,d23⟩:=n1
 rw[List.nodup_cons] at n0
 have hfr:Fr (x::(X.ses k).mks.toList) w w':=hr.chg.fr
 have hG:∀ g,g∈(X.ses k).mks.toList↔(X.ses k).mks=some g:=fun g=>by
  cases (X.ses k).mks with
  |none=>simp
  |some a=>simp[eq_comm]
 have hother:∀ j,j≠k→(X.setSes k { S' with mks:=m }).ses j=X.ses j:=fun j e=>bE _ _ _ e
 have hself:(X.setSes k { S' with mks:=m }).ses k={ S' with mks:=m }:=aW _ _ _
 have hmnew:∀ g,m=some g→(X.ses k).mks=some g∨w.heap.size≤g:=fun g hg=>by
  rcases hr.old g hg with h|h
  ·exact .inl ((hG g).mp h)
  ·exact .inr h
 have hn2:=qI.mp n2
 have hlt:∀ j,j<8→∀ g,(X.ses j).mks=some g→g<w.heap.size:=fun j hj g hg=>by
  have:=h2 j hj
  rw[hg] at this
  exact this.lt
 have hML:∀ g,g∈mr (X.setSes k { S' with mks:=m })→g∈mr X∨w.heap.size≤g:=fun g hg=>by
  obtain⟨j,hj,e⟩:=gw.mp hg
  by_cases ej:j=k
  ·subst ej
   rw[hself] at e
   rcases hmnew g e with h|h
   ·exact .inl (hmk g h)
   ·exact .inr h
  ·rw[hother j ej] at e
   exact .inl (gw.mpr ⟨j,hj,e⟩)
 refine⟨(x::fh)++(mr (X.setSes k { S' with mks:=m })++f3),⟨x::fh,_,⟨kv,hr.pat hk hP,fh,?_,rfl⟩,⟨_,f3,⟨fun j hj=>?_,rfl⟩,?_,rfl⟩,rfl⟩,?_,?_,?_⟩
 ·show aA ic ((List.range 60).map kv) ((List.range 60).map X.hist) w' fh
  refine aA.framed ic.framed _ _ hE hfr (fun g hg hs=>?_)
  rcases List.mem_cons.mp hs with e|e
  ·exact n0.1 (e▸hg)
  ·exact d01 g (by simp[hg]) g (List.mem_append_left _ (hmk g ((hG g).mp e))) rfl
 ·by_cases ej:j=k
  ·subst ej
   rw[hself,aW]
   exact hr.mar
  ·rw[hother j ej,bE _ _ _ ej]
   refine (h2 j hj).fr hfr (fun g hg hs=>?_)
   rcases List.mem_cons.mp hs with e|e
   ·exact d01 x (by simp) g (List.mem_append_left _ (gw.mpr ⟨j,hj,hg⟩)) e.symm
   ·have hgk:=(hG g).mp e
    rcases Nat.lt_or_gt_of_ne ej with hl|hl
    ·exact hn2 j k hl hk g hg hgk
    ·exact hn2 k j hl hj g hgk hg
 ·refine ij.framed _ h3 hfr (fun g hg hs=>?_)
  rcases List.mem_cons.mp hs with e|e
  ·exact d01 x (by simp) g (List.mem_append_right _ hg) e.symm
  ·exact d23 g (hmk g ((hG g).mp e)) g hg rfl
 ·rw[List.nodup_append]
  refine⟨by rw[List.nodup_cons];exact n0,?_,?_⟩
  ·rw[List.nodup_append]
   refine⟨qI.mpr (fun i j hij hj g hi e=>?_),n3,fun a ha b hb e=>?_⟩
   ·by_cases ei:i=k
    ·subst ei
     have ej:j≠i:=by omega
     rw[hself] at hi
     rw[hother j ej] at e
     rcases hmnew g hi with h|h
     ·exact hn2 i j hij hj g h e
     ·have:=hlt j hj g e;omega
    ·rw[hother i ei] at hi
     by_cases ej:j=k
     ·subst ej
      rw[hself] at e
      rcases hmnew g e with h|h
      ·exact hn2 i j hij hj g hi h
      ·have:=hlt i (by omega) g hi;omega
     ·rw[hother j ej] at e
      exact hn2 i j hij hj g hi e
   ·subst e
    rcases hML a ha with h|h
    ·exact d23 a h a hb rfl
    ·have:=hwi a (List.mem_append_right _ (List.mem_append_right _ hb));omega
  ·intro a ha b hb e
   subst e
   rcases List.mem_append.mp hb with hb|hb
   ·rcases hML a hb with h|h
    ·exact d01 a ha a (List.mem_append_left _ h) rfl
    ·have:=hwi a (List.mem_append_left _ ha);omega
   ·exact d01 a ha a (List.mem_append_right _ hb) rfl
 ·intro y hy
  rcases List.mem_append.mp hy with hy|hy
  ·exact .inl (List.mem_append_left _ hy)
  ·rcases List.mem_append.mp hy with hy|hy
   ·rcases hML y hy with h|h
    ·exact .inl (List.mem_append_right _ (List.mem_append_left _ h))
    ·exact .inr h
   ·exact .inl (List.mem_append_right _ (List.mem_append_right _ hy))
 ·refine hfr.mono (fun y hy=>.inl ?_)
  rcases List.mem_cons.mp hy with e|e
  ·subst e;simp
  ·exact List.mem_append_right _ (List.mem_append_left _ (hmk y ((hG y).mp e)))
theorem EM (x:Nat) (X:ap) (F:dN) (f:List Nat) (i:Nat) (n c:Int) (w:World) (h:bh x X F w f) (hn:f.Nodup) (hg:eO i X) (hi:i≤100000000000000) (hR:nG X.src.2.1 X.src.2.2) :
  Calls Tryz.prog 33 #[.pointer (some ⟨x,0,none⟩),.int .i64 n,.int .i64 c] w fun e w'=>e=.returned (.tuple #[.int .i64 (gM X F n c).1.1,.int .i64 (gM X F n c).1.2.1,.int .i64 (gM X F n c).1.2.2])∧cL (bh x (gM X F n c).2.1 (gM X F n c).2.2) f w w':=by
 have hquiet:∀ w',w.grownBy w' none→cL (bh x X F) f w w':=fun w' r=>⟨f,bh.framed _ _ _ h (aJ r) (by simp),hn,fun _ hy=>.inl hy,(aJ r).mono (fun k hk=>by cases hk)⟩
 have h0:=h
 obtain⟨X0,hA,rfl⟩:=h0
 have hg0:=eO.plain.mpr hg
 have hA':=hA
 obtain⟨f0,f1,⟨kv,hk⟩,⟨f2,f3,⟨h2,rfl⟩,h3,rfl⟩,rfl⟩:=hA'
 have e1:aL X0.plain n=aL X0 n:=rfl
 unfold gM
 rw[e1]
 cases hf:aL X0 n with
 |none=>
  refine (zq x X0 kv n c w hk.1 hf).mono ?_
  rintro e w' ⟨rfl,r⟩
  exact⟨rfl,hquiet w' r⟩
 |some k=>
  simp only[]
  by_cases hc:0≤c∧c≤99
  ·rw[if_pos hc]
   have hk8:=(ed hf).1
   have hx0:x∈f0:=by obtain⟨_,_,_,rfl⟩:=hk;simp
   have hn':=hn
   rw[List.nodup_append] at hn'
   obtain⟨_,n1,d01⟩:=hn'
   rw[List.nodup_append] at n1
   obtain⟨_,_,d23⟩:=n1
   have hgm:∀ g,g∈(X0.ses k).mks.toList→g∈mr X0:=fun g hg=>gw.mpr ⟨k,hk8,by
    cases hm:(X0.ses k).mks with
    |none=>rw[hm] at hg;cases hg
    |some a=>rw[hm] at hg;simp at hg;rw[hg]⟩
   have hne:(X0.ses k).mks≠some x:=fun e=>d01 x hx0 x (List.mem_append_left _ (gw.mpr ⟨k,hk8,e⟩)) rfl
   have hsn:=hg0.snap k hk8
   have hmd:=hg0.made k hk8
   have hlt:=hg0.latest
   have hcc:((c.toNat:Nat):Int)=c:=Int.toNat_of_nonneg hc.1
   have:=Ae x X0 kv n k c.toNat (F k) X0.src.2.1 X0.src.2.2 X0.src.1.1 0 w hk.1 hk.rows (fun c hc=>by have:=hg0.len hc;omega) hf (h2 k hk8) hne (hg0.wok hk8) rfl (fun W hW=>(ij.framed _ h3 hW (fun g hg hs=>by
    rcases List.mem_cons.mp hs with e|e
    ·exact d01 x hx0 g (List.mem_append_right _ hg) e.symm
    ·exact d23 g (hgm g e) g hg rfl)).now) hR.walk hR.acts hR.nine (by omega) hsn.1 (by omega)
   rw[hcc] at this
   refine this.mono ?_
   rintro e w' ⟨rfl,m,hr⟩
   have hT:=kg.ran hA hn hk8 hr
   have hp:oq X0.plain F k c.toNat=((oq X0 F k c.toNat).1,(oq X0 F k c.toNat).2.1.bare,(oq X0 F k c.toNat).2.2):=wT X0 F k c.toNat
   rw[hp]
   refine⟨rfl,?_⟩
   obtain⟨f',a,n',s',r'⟩:=hT
   refine⟨f',⟨_,a,?_⟩,n',s',r'⟩
   rw[eG]
   rfl
  ·rw[if_neg hc]
   refine (Ab x X0 kv n c k w hk.1 hf (by omega)).mono ?_
   rintro e w' ⟨rfl,r⟩
   exact⟨rfl,hquiet w' r⟩
structure wO (a b:Nat) (S:br):Prop where
 wr:S.wr.length≤a
 fired:S.fired.length≤b
 val:∀ q∈S.wr,-1≤q.2∧q.2≤9
theorem is.bnd {s:ByteArray} {R:List ax} {com:List (List Wr)} {sn:Int} {P:aI} {fm:Nat→Option Int} {S:br} (h:is s R com sn P fm S) (hR:fV s R) {i:In} (hi:i∈bz 0 s (fe com S) R R.length) {q:List (Nat×Option Int)×Bool} (hq:fZ s i.env (R.getD i.rule (0,[],[])).2.2=some q) {a b:Nat} (hb:wO a b S) (ky:ByteArray):wO (a+4) (b+1) (S.fire ky q.1)∧q.1.length≤4:=by
 obtain⟨h1,_,_,_⟩:=h.one hR hi
 have hr:i.rule<R.length:=h1.1
 have e:R.getD i.rule (0,[],[])=R[i.rule]:=by simp[List.getD,List.getElem?_eq_getElem hr]
 rw[e] at hq
 obtain⟨a1,a2⟩:=hR.prog.acts _ (List.getElem_mem hr)
 have hdig:=mV a1 _ (Nat.le_refl _) q (by rw[List.take_length];exact hq)
 have hlen:=kR s i.env R[i.rule].2.2 _ (Nat.le_refl _) q (by rw[List.take_length];exact hq)
 refine⟨⟨?_,?_,fun p hp=>?_⟩,by omega⟩
 ·show (S.wr++q.1.map ip).length≤a+4
  rw[List.length_append,List.length_map]
  have:=hb.wr
  omega
 ·show (S.fired++[ky]).length≤b+1
  rw[List.length_append,List.length_singleton]
  have:=hb.fired
  omega
 ·have hp':p∈S.wr++q.1.map ip:=hp
  rcases List.mem_append.mp hp' with hp'|hp'
  ·exact hb.val p hp'
  ·obtain⟨x,hx,rfl⟩:=List.mem_map.mp hp'
   have h2:=(hdig x hx).2
   show -1≤x.2.getD (-1)∧x.2.getD (-1)≤9
   cases hx2:x.2 with
   |none=>simp
   |some v=>
    have:=h2 v hx2
    simp only[Option.getD_some]
    omega
theorem yS {s:ByteArray} {R:List ax} {com:List (List Wr)} {sn:Int} (hR:fV s R):∀ (n:Nat) {P:aI} {fm:Nat→Option Int} {S:br} {a b:Nat},is s R com sn P fm S→wO a b S→wO (a+4*n) (b+n) (db (mD s R com) (aD s R) (i8 com) n S).2
 |0,P,fm,S,a,b,h,hb=>by
  unfold db
  cases mD s R com S <;> exact hb
 |n+1,P,fm,S,a,b,h,hb=>by
  have hb':wO (a+4*(n+1)) (b+(n+1)) S:=⟨by have:=hb.wr;omega,by have:=hb.fired;omega,hb.val⟩
  unfold db
  cases hm:mD s R com S with
  |nil=>exact hb'
  |cons i l=>
   have hi:i∈bz 0 s (fe com S) R R.length:=sK (s:=s) (R:=R) (com:=com) (S:=S) (by rw[hm];simp)
   simp only[]
   rw[wH hR hi]
   cases ho:fZ s i.env (R.getD i.rule (0,[],[])).2.2 with
   |none=>exact hb'
   |some q=>
    simp only[]
    obtain⟨h2,_⟩:=h.bnd hR hi ho hb (i8 com S i)
    cases q.2 with
    |true=>
     simp only[if_true]
     exact⟨by have:=h2.wr;omega,by have:=h2.fired;omega,h2.val⟩
    |false=>
     simp only[Bool.false_eq_true,if_false]
     have h3:=yS hR n (h.step hR hi ho) h2
     exact⟨by have:=h3.wr;omega,by have:=h3.fired;omega,h3.val⟩
structure q6 (i:Nat) (E:bk):Prop where
 wrVal:∀ S∈E.opn,∀ q∈S.wr,-1≤q.2∧q.2≤9
 firLen:∀ S∈E.opn,S.fired.length≤100*i
 comEach:∀ l∈E.com,l.length≤60
 comVal:∀ l∈E.com,∀ q∈l,-1≤q.2∧q.2≤9
theorem q6.mono {i j:Nat} {E:bk} (h:q6 i E) (hij:i≤j):q6 j E:=⟨h.wrVal,fun S hS=>by have:=h.firLen S hS;omega,h.comEach,h.comVal⟩
structure bP (i:Nat) (X:ap) (F:dN) (E:bk):Prop where
 sim:dk X F E
 fit:eO i X
 bnd:q6 i E
 rul:fV X.src.2.1 X.src.2.2
theorem bP.mono {i j:Nat} {X:ap} {F:dN} {E:bk} (h:bP i X F E) (hij:i≤j):bP j X F E:=⟨h.sim,h.fit.mono hij,h.bnd.mono hij,h.rul⟩
theorem bP.comLen {i:Nat} {X:ap} {F:dN} {E:bk} (h:bP i X F E):E.com.length≤i:=by
 have h1:=h.sim.latest
 have h2:=h.fit.latest
 omega
theorem dk.sess {X:ap} {F:dN} {E:bk} (h:dk X F E) {S:br} (hS:S∈E.opn):∃ k,k<8∧df (X.ses k) S.nf:=by
 obtain⟨L,hs⟩:=h.sim
 have hm:S.nf∈E.nf.opn:=List.mem_map.mpr ⟨S,hS,rfl⟩
 rw[hs.opn] at hm
 obtain⟨q,hq,e⟩:=List.mem_map.mp hm
 have h1:=hs.ses q hq
 rw[e] at h1
 exact⟨q.1,hs.lt q hq,h1⟩
theorem bP.wrLen {i:Nat} {X:ap} {F:dN} {E:bk} (h:bP i X F E) {S:br} (hS:S∈E.opn):S.wr.length≤400*i:=by
 obtain⟨k,hk,hs⟩:=h.sim.sess hS
 have h1:(X.ses k).made=S.wr.length:=hs.made
 have h2:=h.fit.made k hk
 omega
theorem bP.wf {i:Nat} {X:ap} {F:dN} {E:bk} (h:bP i X F E) (hi:i≤100000000000000):kB E:=
 ⟨by have:=h.comLen;omega,fun l hl=>by have:=h.bnd.comEach l hl;omega,h.bnd.comVal,h.sim.len,fun S hS=>(h.sim.pos hS).2.2,fun S hS=>by have:=h.wrLen hS;omega,h.bnd.wrVal⟩
theorem bP.keptLen {i:Nat} {X:ap} {F:dN} {E:bk} (h:bP i X F E):E.kept.length≤999:=by
 have h1:=h.sim.kept.len
 have h2:=h.fit.keptN
 omega
theorem bP.room {i:Nat} {X:ap} {F:dN} {E:bk} (h:bP i X F E):1≤E.room∧E.room≤999:=by
 have h1:=h.sim.room
 have h2:=h.fit.room
 omega
theorem bP.rel {i:Nat} {X:ap} {F:dN} {E:bk} (h:bP i X F E) {j k:Nat} (hj:j<E.opn.length) (hk:k<8) (hn:(X.ses k).num=E.opn[j].num) (hss:df (X.ses k) E.opn[j].nf):is X.src.2.1 X.src.2.2 E.com E.opn[j].snap (X.ses k) (F k) E.opn[j]:=by
 have hS:=List.getElem_mem hj
 have hp:=h.sim.pos hS
 refine⟨hss,h.sim.fire _ hS k hk hn,⟨h.fit.wr k hk,fun c v hv=>?_⟩,rfl,hp.2.2.1,hp.2.2.2⟩
 have hver:=iH E.com c E.opn[j].snap.toNat (by omega)
 have e0:((E.opn[j].snap.toNat:Nat):Int)=E.opn[j].snap:=Int.toNat_of_nonneg hp.2.2.1
 rw[e0] at hver
 unfold fS at hv
 rw[hver] at hv
 simp only[] at hv
 have hb:=tu h.bnd.comVal (aw c) E.opn[j].snap.toNat (by omega)
 unfold lH at hv
 split at hv
 ·cases hv
 ·cases hv;omega
theorem l6 {S:aI} {f g:Nat→Int×Option Int} (h:∀ c,c<60→eZ (g c) (f c)):di S g 60=di S f 60:=by
 unfold di
 apply dH
 intro c hc
 congr 1
 unfold cM
 cases S.wr c with
 |some v=>rfl
 |none=>
  simp only[]
  obtain⟨h1,h2⟩:=h c (by simpa using hc)
  cases hv:(g c).2 with
  |none=>rw[hv] at h1;rw[←h1];rfl
  |some v=>
   have:=h2 (by rw[hv];rfl)
   rw[←this,hv]
theorem oy {s:ByteArray} {R:List ax} {f g:Nat→Int×Option Int} (h:∀ c,c<60→eZ (g c) (f c)):∀ (n:Nat) (S:aI) (fm:Nat→Option Int),cU s R g n S fm=cU s R f n S fm
 |0,S,fm=>by
  have e:jF s R g S fm=jF s R f S fm:=by unfold jF;rw[l6 h]
  unfold cU
  rw[e]
 |n+1,S,fm=>by
  have e:jF s R g S fm=jF s R f S fm:=by unfold jF;rw[l6 h]
  unfold cU
  rw[e]
  cases jF s R f S fm with
  |none=>rfl
  |some i=>
   simp only[]
   cases fZ s i.env (R.getD i.rule (0,[],[])).2.2 with
   |none=>rfl
   |some q=>
    simp only[]
    rw[oy h n]
theorem dk.seen {X:ap} {F:dN} {E:bk} (h:dk X F E) {S:br} (hS:S∈E.opn) {k:Nat} (hsn:(X.ses k).snap=S.snap):∀ c,c<60→eZ ((fun c=>aM (X.hist c) (X.ses k).snap) c) (fS E.com S.snap c):=by
 obtain⟨lo,hh⟩:=h.his
 intro c hc
 simp only[hsn]
 exact hh.at hS (h.pos hS).2.2.2 hc
def qo (s:ByteArray) (R:List ax) (E:bk) (n:Int):ByteArray×Int:=match dq E.opn n with
 |none=>(ByteArray.empty,6)
 |some S=>(ez (mD s R E.com S),0)
theorem bP.mat {i:Nat} {X:ap} {F:dN} {E:bk} (h:bP i X F E) (n:Int):uM X F n=qo X.src.2.1 X.src.2.2 E n:=by
 unfold uM qo
 rcases h.sim.find n with ⟨e1,_,e2⟩|⟨j,k,hj,hk,hn,hkn,e1,_,e2,hss,_⟩
 ·rw[e1,e2]
 ·rw[e1,e2]
  have hrel:=h.rel hj hk (hkn.trans hn.symm) hss
  simp only[]
  have e3:fQ X k=di (X.ses k) (fS E.com E.opn[j].snap) 60:=l6 (h.sim.seen (List.getElem_mem hj) hss.snap)
  rw[e3,hrel.open h.rul]
def jl (s:ByteArray) (R:List ax) (E:bk) (n c:Int):(Int×Int×Int)×bk:=match eF E.opn n with
 |none=>((0,0,6),E)
 |some j=>if 0≤c∧c≤99 then (((db (mD s R E.com) (aD s R) (i8 E.com) c.toNat (E.opn.getD j ⟨0,0,[],[]⟩)).1.1,(db (mD s R E.com) (aD s R) (i8 E.com) c.toNat (E.opn.getD j ⟨0,0,[],[]⟩)).1.2,0),qA E j (db (mD s R E.com) (aD s R) (i8 E.com) c.toNat (E.opn.getD j ⟨0,0,[],[]⟩)).2) else ((0,0,9),E)
theorem dk.nums {X:ap} {F:dN} {E:bk} (h:dk X F E):(E.opn.map (·.num)).Nodup:=by
 obtain⟨L,hs⟩:=h.sim
 have e:E.opn.map (·.num)=L.map (·.2.num):=by
  have h1:E.nf.opn.map (·.num)=(L.map (·.2)).map (·.num):=by rw[hs.opn]
  have h2:E.nf.opn.map (·.num)=E.opn.map (·.num):=by
   unfold bk.nf
   rw[List.map_map]
   rfl
  rw[←h2,h1,List.map_map]
  rfl
 rw[e]
 exact hs.nums
theorem bP.run {i:Nat} {X:ap} {F:dN} {E:bk} (h:bP i X F E) (n c:Int):(gM X F n c).1=(jl X.src.2.1 X.src.2.2 E n c).1∧bP (i+1) (gM X F n c).2.1 (gM X F n c).2.2 (jl X.src.2.1 X.src.2.2 E n c).2:=by
 have hfit:=h.fit.run F n c h.rul.prog
 have hmono:=h.mono (Nat.le_succ i)
 have hfd:=h.sim.find n
 rcases hfd with ⟨e1,e2,_⟩|⟨j,k,hj,hk,hn,hkn,e1,e2,_,hss,_⟩
 ·unfold gM jl
  rw[e1,e2]
  exact⟨rfl,hmono⟩
 ·by_cases hc:0≤c∧c≤99
  ·have hS:=List.getElem_mem hj
   have hpos:=fun S (hS:S∈E.opn)=>h.sim.pos hS
   have hgd:E.opn.getD j ⟨0,0,[],[]⟩=E.opn[j]:=by simp[List.getD,hj]
   have hrel:=h.rel hj hk (hkn.trans hn.symm) hss
   have erun:oq X F k c.toNat=cU X.src.2.1 X.src.2.2 (fS E.com E.opn[j].snap) c.toNat (X.ses k) (F k):=oy (h.sim.seen hS hss.snap) _ _ _
   obtain⟨r1,r2⟩:=uW h.rul c.toNat hrel
   have rb:=yS h.rul c.toNat hrel (a:=E.opn[j].wr.length) (b:=E.opn[j].fired.length) ⟨Nat.le_refl _,Nat.le_refl _,h.bnd.wrVal _ hS⟩
   have rok:=sX h.rul.prog c.toNat (X.ses k) (F k) hrel.ok
   unfold gM at hfit ⊢
   unfold jl
   rw[e1] at hfit
   rw[e1,e2]
   simp only[] at hfit ⊢
   rw[if_pos hc] at hfit
   rw[if_pos hc,if_pos hc]
   rw[hgd]
   rw[erun] at hfit ⊢
   obtain⟨RP,hRP⟩:∃ RP,RP=cU X.src.2.1 X.src.2.2 (fS E.com E.opn[j].snap) c.toNat (X.ses k) (F k):=⟨_,rfl⟩
   obtain⟨RD,hRD⟩:∃ RD,RD=db (mD X.src.2.1 X.src.2.2 E.com) (aD X.src.2.1 X.src.2.2) (i8 E.com) c.toNat E.opn[j]:=⟨_,rfl⟩
   rw[←hRP] at r1 r2 rok hfit ⊢
   rw[←hRD] at r1 r2 rb ⊢
   have hnum:RP.2.1.num=E.opn[j].num:=by rw[rok.num,hkn,hn]
   have hnum2:RD.2.num=E.opn[j].num:=by
    have:RP.2.1.num=RD.2.num:=r2.ses.num
    rw[←this,hnum]
   have hmem:∀ S'∈(qA E j RD.2).opn,S'=RD.2∨(S'∈E.opn∧S'.num≠n):=fun S' hS'=>by
    obtain⟨q,hq,e⟩:=List.mem_iff_getElem.mp hS'
    have hq2:q<E.opn.length:=by simpa [qA] using hq
    have e':(E.opn.set j RD.2)[q]'(by simpa using hq2)=S':=e
    rw[List.getElem_set] at e'
    by_cases ej:j=q
    ·rw[if_pos ej] at e'
     exact .inl e'.symm
    ·rw[if_neg ej] at e'
     refine .inr ⟨by rw[←e'];exact List.getElem_mem hq2,fun en=>ej ?_⟩
     have hnd:=h.sim.nums
     rw[List.nodup_iff_pairwise_ne,List.pairwise_iff_getElem] at hnd
     rw[←e'] at en
     rcases Nat.lt_trichotomy j q with hlt|he|hlt
     ·have hne:=hnd j q (by simpa using hj) (by simpa using hq2) hlt
      simp only[List.getElem_map] at hne
      exact absurd (hn.trans en.symm) hne
     ·exact he
     ·have hne:=hnd q j (by simpa using hq2) (by simpa using hj) hlt
      simp only[List.getElem_map] at hne
      exact absurd (en.trans hn.symm) hne
   refine⟨by rw[r1],⟨?_,?_,?_,?_⟩,hfit,⟨fun S' hS'=>?_,fun S' hS'=>?_,h.bnd.comEach,h.bnd.comVal⟩,h.rul⟩
   ·obtain⟨L,hs⟩:=h.sim.sim
    rcases hs.find n with ⟨f1,_⟩|⟨q,hq,hq2,eq,hqn,f1,f2,_⟩
    ·have:aL (X.full E.com) n=aL X n:=rfl
     rw[this,e1] at f1
     cases f1
    ·have g1:aL (X.full E.com) n=aL X n:=rfl
     rw[g1,e1] at f1
     have g2:eF E.nf.opn n=eF E.opn n:=lk _ _
     rw[g2,e2] at f2
     cases f2
     have hLk:L[j].1=k:=by simpa using f1.symm
     have hL2:L[j].2=E.opn[j].nf:=by
      rw[←eq]
      simp[bk.nf]
     obtain⟨L',hs'⟩:=hs.set hq (P':=RP.2.1) (S':=RD.2.nf) r2.ses (by rw[hL2];exact hnum2) (by rw[hL2];exact r2.snap)
     rw[hLk,←EY] at hs'
     exact⟨L',hs'⟩
   ·obtain⟨lo,hh⟩:=h.sim.his
    refine⟨lo,hh.same rfl rfl (fun S' hS'=>?_)⟩
    rcases hmem S' hS' with e|⟨e,_⟩
    ·exact .inr ⟨E.opn[j],hS,by rw[e];exact r2.snap⟩
    ·exact .inr ⟨S',e,rfl⟩
   ·exact h.sim.kept.same rfl rfl rfl
   ·intro S' hS' q hq hqn
    by_cases eq:q=k
    ·subst eq
     have a1:(X.setSes q RP.2.1).ses q=RP.2.1:=aW _ _ _
     rw[a1] at hqn
     rcases hmem S' hS' with e|⟨e,hne⟩
     ·show kx X.src.2.1 X.src.2.2 E.com (cH X.ses q RP.2.1 q) (cH F q RP.2.2 q) S'
      rw[aW,aW,e]
      exact r2.fire
     ·exact absurd (by rw[←hqn,hnum,hn]) hne
    ·have a1:(X.setSes k RP.2.1).ses q=X.ses q:=bE _ _ _ eq
     rw[a1] at hqn
     rcases hmem S' hS' with e|⟨e,hne⟩
     ·exfalso
      rw[e,hnum2,hn] at hqn
      have hn1:=(hpos _ hS).1
      rcases h.fit.uniq q k hq hk (by rw[hqn,hkn]) with h0|h0
      ·omega
      ·exact eq h0
     ·show kx X.src.2.1 X.src.2.2 E.com (cH X.ses k RP.2.1 q) (cH F k RP.2.2 q) S'
      rw[bE _ _ _ eq,bE _ _ _ eq]
      exact h.sim.fire S' e q hq hqn
   ·rcases hmem S' hS' with e|⟨e,_⟩
    ·rw[e];exact rb.val
    ·exact h.bnd.wrVal S' e
   ·rcases hmem S' hS' with e|⟨e,_⟩
    ·rw[e]
     have h1:=rb.fired
     have h2:=h.bnd.firLen _ hS
     omega
    ·have:=h.bnd.firLen S' e
     omega
  ·unfold gM jl
   rw[e1,e2]
   simp only[]
   rw[if_neg hc,if_neg hc]
   exact⟨rfl,hmono⟩
theorem q6.sub {i:Nat} {E E':bk} (h:q6 i E) (h1:∀ S∈E'.opn,S∈E.opn) (h2:E'.com=E.com):q6 i E':=⟨fun S hS=>h.wrVal S (h1 S hS),fun S hS=>h.firLen S (h1 S hS),by rw[h2];exact h.comEach,by rw[h2];exact h.comVal⟩
theorem q6.add {i:Nat} {E:bk} (h:q6 i E) (k:Nat) (p:Wr) (hp:-1≤p.2∧p.2≤9):q6 i (i9 E k p):=by
 have hmem:∀ S∈(i9 E k p).opn,S∈E.opn∨∃ S0∈E.opn,S=S0.add p:=by
  intro S hS
  obtain⟨j,hj,rfl⟩:=List.mem_iff_getElem.mp hS
  have hj2:j<E.opn.length:=by simpa [i9] using hj
  simp only[i9,List.getElem_modify]
  split
  ·exact .inr ⟨_,List.getElem_mem hj2,rfl⟩
  ·exact .inl (List.getElem_mem hj2)
 refine⟨fun S hS=>?_,fun S hS=>?_,h.comEach,h.comVal⟩
 ·rcases hmem S hS with e|⟨S0,e,rfl⟩
  ·exact h.wrVal S e
  ·intro q hq
   simp only[br.add,List.mem_append,List.mem_singleton] at hq
   rcases hq with hq|rfl
   ·exact h.wrVal S0 e q hq
   ·exact hp
 ·rcases hmem S hS with e|⟨S0,e,rfl⟩
  ·exact h.firLen S e
  ·exact h.firLen S0 e
theorem bP.src {i:Nat} {X X':ap} {F:dN} {E:bk} (h:bP i X F E) (e:X'.src=X.src):fV X'.src.2.1 X'.src.2.2:=by rw[e];exact h.rul
theorem bP.open {i:Nat} {X:ap} {F:dN} {E:bk} (h:bP i X F E):(a8 X).1=(cE E).1∧bP (i+1) (a8 X).2 (cy X (a8 X).2 F) (cE E).2:=by
 obtain⟨h1,h2⟩:=h.sim.open
 refine⟨h1,h2,h.fit.open,?_,h.src (rP X)⟩
 have hb:=h.bnd.mono (Nat.le_succ i)
 unfold cE
 split
 ·exact hb
 ·refine⟨fun S hS=>?_,fun S hS=>?_,hb.comEach,hb.comVal⟩
  ·rcases List.mem_append.mp hS with hS|hS
   ·exact hb.wrVal S hS
   ·rw[List.mem_singleton] at hS
    rw[hS]
    intro q hq
    cases hq
  ·rcases List.mem_append.mp hS with hS|hS
   ·exact hb.firLen S hS
   ·rw[List.mem_singleton] at hS
    rw[hS]
    exact Nat.zero_le _
theorem bP.put {i:Nat} {X:ap} {F:dN} {E:bk} (h:bP i X F E) (n:Int) (s:ByteArray):(cj X n s).1=(fw E n s).1∧bP (i+1) (cj X n s).2 (cy X (cj X n s).2 F) (fw E n s).2:=by
 obtain⟨h1,h2⟩:=h.sim.put n s
 refine⟨h1,h2,h.fit.put n s,?_,h.src (uL X n s)⟩
 have hb:=h.bnd.mono (Nat.le_succ i)
 unfold fw
 cases eF E.opn n with
 |none=>exact hb
 |some k=>
  cases hf:eP s with
  |false=>exact hb
  |true=>
   refine hb.add k _ ?_
   simp only[eP,Bool.and_eq_true,bM,decide_eq_true_eq] at hf
   show -1≤bt s 2 - 48∧bt s 2 - 48≤9
   omega
theorem bP.clear {i:Nat} {X:ap} {F:dN} {E:bk} (h:bP i X F E) (n:Int) (s:ByteArray):(aY X n s).1=(cS E n s).1∧bP (i+1) (aY X n s).2 (cy X (aY X n s).2 F) (cS E n s).2:=by
 obtain⟨h1,h2⟩:=h.sim.clear n s
 refine⟨h1,h2,h.fit.clear n s,?_,h.src (pi X n s)⟩
 have hb:=h.bnd.mono (Nat.le_succ i)
 unfold cS
 cases eF E.opn n with
 |none=>exact hb
 |some k=>
  cases hf:eC s with
  |false=>exact hb
  |true=>exact hb.add k _ (by simp)
theorem bP.abort {i:Nat} {X:ap} {F:dN} {E:bk} (h:bP i X F E) (n:Int):(aX X n).1=(cR E n).1∧bP (i+1) (aX X n).2 (cy X (aX X n).2 F) (cR E n).2:=by
 obtain⟨h1,h2⟩:=h.sim.abort n
 refine⟨h1,h2,h.fit.abort n,?_,h.src (pl X n)⟩
 have hb:=h.bnd.mono (Nat.le_succ i)
 unfold cR
 cases eF E.opn n with
 |none=>exact hb
 |some k=>exact hb.sub (fun S hS=>jG hS) rfl
theorem bP.sweep {i:Nat} {X:ap} {F:dN} {E:bk} (h:bP i X F E):(ch X).1=(dT E).1∧bP (i+1) (ch X).2 F (dT E).2:=by
 obtain⟨h1,h2⟩:=h.sim.sweep h.fit
 exact⟨h1,h2,h.fit.sweep,(h.bnd.mono (Nat.le_succ i)).sub (fun S hS=>hS) rfl,h.rul⟩
theorem zt (E:bk) (m:Nat):(dY E m).opn=E.opn∧(dY E m).com=E.com:=by
 unfold dY
 split <;> exact⟨rfl,rfl⟩
theorem bP.commit {i:Nat} {X:ap} {F:dN} {E:bk} (h:bP i X F E) (n:Int):(bH X n).1=(cJ E n).1∧bP (i+1) (bH X n).2 (cy X (bH X n).2 F) (cJ E n).2:=by
 obtain⟨h1,h2⟩:=h.sim.commit h.fit (fun S hS q hq=>(h.bnd.wrVal S hS q hq).1) n
 refine⟨h1,h2,h.fit.commit n,?_,h.src (gX X n).2.2.1⟩
 have hb:=h.bnd.mono (Nat.le_succ i)
 unfold cJ
 cases hf:dq E.opn n with
 |none=>exact hb
 |some S=>
  have hS:S∈E.opn:=List.mem_of_find?_eq_some hf
  simp only[]
  cases dZ E S with
  |true=>exact hb.sub (fun S hS=>jG hS) rfl
  |false=>
   cases (aP S.wr).isEmpty with
   |true=>exact hb.sub (fun S hS=>jG hS) rfl
   |false=>
    simp only[Bool.false_eq_true,if_false]
    obtain⟨o1,o2⟩:=zt E (aP S.wr).length
    split
    ·exact hb.sub (fun S hS=>by rw[o1] at hS;exact hS) o2
    ·refine⟨fun T hT=>hb.wrVal T ?_,fun T hT=>hb.firLen T ?_,fun l hl=>?_,fun l hl=>?_⟩
     ·have:=jG hT
      have h3:T∈(dY E (aP S.wr).length).opn:=this
      rw[o1] at h3
      exact h3
     ·have:=jG hT
      have h3:T∈(dY E (aP S.wr).length).opn:=this
      rw[o1] at h3
      exact h3
     ·have hl':l∈(dY E (aP S.wr).length).com++[aP S.wr]:=hl
      rw[o2] at hl'
      rcases List.mem_append.mp hl' with hl'|hl'
      ·exact hb.comEach l hl'
      ·rw[List.mem_singleton] at hl'
       rw[hl']
       exact mj _ 60
     ·have hl':l∈(dY E (aP S.wr).length).com++[aP S.wr]:=hl
      rw[o2] at hl'
      rcases List.mem_append.mp hl' with hl'|hl'
      ·exact hb.comVal l hl'
      ·rw[List.mem_singleton] at hl'
       rw[hl']
       intro q hq
       obtain⟨_,_,_,_,_,_,hm⟩:=lE hq
       exact hb.wrVal S hS q hm
end Go.Proofs.YthlhbjnkohinmaaGreat
