import Derived.Test.YthlhbjnkohinmaaGreatP35
import Derived.Test.YthlhbjnkohinmaaGreatP19
import Derived.Maps.AppendAt
import Derived.Test.YthlhbjnkohinmaaGreatP24
import Derived.Test.YthlhbjnkohinmaaGreatP21
import Derived.Test.YthlhbjnkohinmaaGreatP18
import Derived.Test.YthlhbjnkohinmaaGreatP14
namespace Go.Proofs.YthlhbjnkohinmaaGreat
set_option maxRecDepth 100000
set_option maxHeartbeats 8000000
open Go.RowKit
theorem Aq (Q:Value→eV) (y:Nat) (E:bk) (f:List Nat) (n fuel:Int) (w:World) (hE:bJ Q y E w f) (hW:kB E) (hf:dq E.opn n=none) :
  Calls Tryz.prog 34 #[.pointer (some ⟨y,0,none⟩),.int .i64 n,.int .i64 fuel] w fun e w'=>e=.returned (.tuple #[.int .i64 0,.int .i64 0,.int .i64 6])∧w'=w:=by
 obtain⟨rv,cv,kv,ov,cs,ps,f1,f2,⟨hb,rfl⟩,⟨f3,f4,_,⟨f5,f6,⟨hcr,_⟩,⟨f7,f8,hcom,⟨f9,f10,_,⟨f11,f12,⟨hor,_⟩,hses,_⟩,_⟩,_⟩,_⟩,_⟩,_⟩:=hE
 obtain⟨ao,mo,co,rfl⟩:=an hor
 have d4:w.cell? ⟨y,4,none⟩=some (.slice ao mo co):=by simp[World.cell?,hb]
 have HF:=af (dW y E.opn ps f12 n ao mo co w d4 hor hses (by have:=hW.opnLen;omega))
 have HFS:=af hf
 clear hb hses hcom d4 hor hf hcr
 go_enter Tryz.func34,Tryz.ntmps34
 go_wp2_with fail
 go_at_call 44
 refine HF.out.mono ?_
 rintro e w' ⟨⟨u,rfl,hans⟩,rfl⟩
 rcases hans with ⟨k,h1,h2,hn1,hn2,rfl⟩|⟨hn,rfl⟩
 ·exfalso
  have:=HFS.out
  rw[gh h1 hn1 hn2] at this
  cases this
 ·clear hn HF HFS
  go_wp2_with fail
  go_ret3
  exact⟨rfl,rfl⟩
theorem AC (Q:Value→eV) (y:Nat) (E:bk) (f:List Nat) (n fuel:Int) (S:br) (w:World) (hE:bJ Q y E w f) (hW:kB E) (hf:dq E.opn n=some S) (hfu:fuel<0∨99<fuel) :
  Calls Tryz.prog 34 #[.pointer (some ⟨y,0,none⟩),.int .i64 n,.int .i64 fuel] w fun e w'=>e=.returned (.tuple #[.int .i64 0,.int .i64 0,.int .i64 9])∧w'=w:=by
 obtain⟨rv,cv,kv,ov,cs,ps,f1,f2,⟨hb,rfl⟩,⟨f3,f4,_,⟨f5,f6,⟨hcr,_⟩,⟨f7,f8,hcom,⟨f9,f10,_,⟨f11,f12,⟨hor,_⟩,hses,_⟩,_⟩,_⟩,_⟩,_⟩,_⟩:=hE
 obtain⟨ao,mo,co,rfl⟩:=an hor
 have d4:w.cell? ⟨y,4,none⟩=some (.slice ao mo co):=by simp[World.cell?,hb]
 have HF:=af (dW y E.opn ps f12 n ao mo co w d4 hor hses (by have:=hW.opnLen;omega))
 have HFS:=af hf
 have HS:=af hses
 clear hb hses hcom d4 hor hf hcr
 go_enter Tryz.func34,Tryz.ntmps34
 go_wp2_with fail
 go_at_call 44
 refine HF.out.mono ?_
 rintro e w' ⟨⟨u,rfl,hans⟩,rfl⟩
 obtain⟨g1,rfl⟩:∃ g1,u=.pointer (some ⟨g1,0,none⟩):=by
  rcases hans with ⟨k',h1,h2,hn1,hn2,rfl⟩|⟨hn,_⟩
  ·obtain⟨_,hse,_⟩:=aA.get HS.out k' h2 h1
   obtain⟨g1,_,_,_,_,_,_,hp,_⟩:=hse.open
   exact⟨g1,hp⟩
  ·exfalso
   have:=HFS.out
   rw[iP hn] at this
   cases this
 clear hans HF HFS HS
 by_cases h0:fuel<0
 ·clear hfu
  go_wp2_with fail
  go_ret3
  exact⟨rfl,rfl⟩
 ·have h9:99<fuel:=by omega
  clear hfu
  go_wp2_with fail
  go_ret3
  exact⟨rfl,rfl⟩
def br.fire (S:br) (ky:ByteArray) (ws:List (Nat×Option Int)):br:={ S with fired:=S.fired++[ky],wr:=S.wr++ws.map ip }
abbrev vM:=Option (List (Nat×Option Int)×Bool)
def db (M:br→List In) (A:In→vM) (KX:br→In→ByteArray):Nat→br→(Int×Int)×br
 |0,S=>match M S with
  |[]=>((0,1),S)
  |_::_=>((0,2),S)
 |n+1,S=>match M S with
  |[]=>((0,1),S)
  |i::_=>match A i with
   |none=>((0,4),S)
   |some q=>if q.2 then ((1,3),S.fire (KX S i) q.1) else (((db M A KX n (S.fire (KX S i) q.1)).1.1+1,(db M A KX n (S.fire (KX S i) q.1)).1.2),(db M A KX n (S.fire (KX S i) q.1)).2)
theorem vL (a b:List Wr):aO (a++b)=aO a++aO b:=by simp[aO]
theorem vt (l:List Wr):(aO l).length=l.length*2:=by
 induction l with
 |nil=>rfl
 |cons p l ih=>
  show (aO l).length+1+1=_
  rw[ih,List.length_cons]
  omega
theorem oD (l:List Wr):∀ u∈aO l,u.oneCell'=true:=by
 intro u hu
 unfold aO at hu
 obtain⟨p,_,hp⟩:=List.mem_flatMap.mp hu
 simp at hp
 rcases hp with h|h <;> subst h <;> rfl
theorem Fr.trans2 {S T:List Nat} {a b c:World} (h:Fr T a b) (k:Fr S b c) (hs:∀ g∈S,g∈T∨a.heap.size≤g):Fr T a c:=
 ⟨k.os.trans h.os,k.tape.trans h.tape,k.output.trans h.output,Nat.le_trans h.size k.size,fun i hi hn=>(k.block i (Nat.lt_of_lt_of_le hi h.size) (fun e=>by rcases hs i e with q|q;exact hn q;omega)).trans (h.block i hi hn)⟩
theorem qT.fr {g1:Nat} {wv fv:Value} {S:br} {w w':World} {T:List Nat} (h:qT g1 wv fv S w) (hf:Fr T w w') (ht:∀ x∈gK g1 wv fv,x∉T):qT g1 wv fv S w':=
 ⟨(hf.block g1 (lt_of_block h.blk) (ht g1 (by simp[gK]))).trans h.blk,(bn.framed _ _ _ _ _ ⟨h.wr,rfl⟩ hf (fun x hx=>ht x (by simp[gK,hx]))).1,(bn.framed _ _ _ _ _ ⟨h.fd,rfl⟩ hf (fun x hx=>ht x (by simp[gK,hx]))).1⟩
theorem qT.quiet {g1:Nat} {wv fv:Value} {S:br} {w w':World} (h:qT g1 wv fv S w) (hf:Fr [] w w'):qT g1 wv fv S w':=h.fr hf (by simp)
theorem Am {w:World} {g:Nat} {x0 x1 x2 x3 u:Value} {t:TypeId} (h:w.heap[g]?=some (.cells #[x0,x1,x2,x3] t (0,0))):(w.setCell ⟨g,3,none⟩ u).heap[g]?=some (.cells #[x0,x1,x2,u] t (0,0)):=by
 obtain⟨hl,e⟩:=Array.getElem?_eq_some_iff.mp h
 simp[World.setCell,hl,Array.getElem_modify,e]
theorem rN {g1:Nat} {wv fv v':Value} {S:br} {ky:ByteArray} {w w3:World} (h:qT g1 wv fv S w) (hv:w3.ownsRow 0 9 1 v' (S.fired.length+1) (S.fired.map Value.string++[.string ky])) (hg:Fr fv.ownBlock.toList w w3) (ha:v'.ownBlock=fv.ownBlock∨∃ b,v'.ownBlock=some b∧w.heap.size≤b) :
  qT g1 wv v' { S with fired:=S.fired++[ky] } (w3.setCell ⟨g1,3,none⟩ v')∧Fr (gK g1 wv fv) w (w3.setCell ⟨g1,3,none⟩ v')∧∀ x∈gK g1 wv v',x∈gK g1 wv fv∨w.heap.size≤x:=by
 have hnd:=h.nodup
 have hb3:w3.heap[g1]?=some (.cells #[.int .i64 S.num,.int .i64 S.snap,wv,fv] 100 (0,0)):=(hg.block g1 (lt_of_block h.blk) (fun e=>by
  unfold gK at hnd
  simp only[List.singleton_append,List.nodup_cons,List.mem_append] at hnd
  exact hnd.1 (.inr e))).trans h.blk
 have hw3:w3.ownsRow 0 107 2 wv S.wr.length (aO S.wr):=(bn.framed _ _ _ _ _ ⟨h.wr,rfl⟩ hg (fun x hx e=>by
  unfold gK at hnd
  simp only[List.singleton_append,List.nodup_cons,List.nodup_append] at hnd
  exact hnd.2.2.2 x hx x e rfl)).1
 refine⟨⟨Am hb3,ownsRow_setCell_other hw3 (aS hw3 hb3 (by decide)) _,?_⟩,?_,fun x hx=>?_⟩
 ·simp only[List.length_append,List.length_cons,List.length_nil,List.map_append,List.map_cons,List.map_nil]
  exact ownsRow_setCell_other hv (aS hv hb3 (by decide)) _
 ·exact (hg.mono (fun x hx=>.inl (by simp[gK,hx]))).set (.inl (by simp[gK])) _
 ·simp only[gK,List.singleton_append,List.mem_cons,List.mem_append] at hx ⊢
  rcases hx with hx|hx|hx
  ·exact .inl (.inl hx)
  ·exact .inl (.inr (.inl hx))
  ·rcases ha with e|⟨b,e,hb⟩
   ·rw[e] at hx;exact .inl (.inr (.inr hx))
   ·rw[e] at hx
    simp at hx
    exact .inr (by omega)
theorem kU {g1:Nat} {wv fv v':Value} {S:br} {ws:List Wr} {w w3:World} (h:qT g1 wv fv S w) (hv:w3.ownsRow 0 107 2 v' (S.wr.length+ws.length) (aO S.wr++aO ws)) (hg:Fr wv.ownBlock.toList w w3) (ha:v'.ownBlock=wv.ownBlock∨∃ b,v'.ownBlock=some b∧w.heap.size≤b) :
  qT g1 v' fv { S with wr:=S.wr++ws } (w3.setCell ⟨g1,2,none⟩ v')∧Fr (gK g1 wv fv) w (w3.setCell ⟨g1,2,none⟩ v')∧∀ x∈gK g1 v' fv,x∈gK g1 wv fv∨w.heap.size≤x:=by
 have hnd:=h.nodup
 have hb3:w3.heap[g1]?=some (.cells #[.int .i64 S.num,.int .i64 S.snap,wv,fv] 100 (0,0)):=(hg.block g1 (lt_of_block h.blk) (fun e=>by
  unfold gK at hnd
  simp only[List.singleton_append,List.nodup_cons,List.mem_append] at hnd
  exact hnd.1 (.inl e))).trans h.blk
 have hw3:w3.ownsRow 0 9 1 fv S.fired.length (S.fired.map Value.string):=(bn.framed _ _ _ _ _ ⟨h.fd,rfl⟩ hg (fun x hx e=>by
  unfold gK at hnd
  simp only[List.singleton_append,List.nodup_cons,List.nodup_append] at hnd
  exact hnd.2.2.2 x e x hx rfl)).1
 refine⟨⟨ni hb3,?_,ownsRow_setCell_other hw3 (aS hw3 hb3 (by decide)) _⟩,?_,fun x hx=>?_⟩
 ·simp only[List.length_append,vL]
  exact ownsRow_setCell_other hv (aS hv hb3 (by decide)) _
 ·exact (hg.mono (fun x hx=>.inl (by simp[gK,hx]))).set (.inl (by simp[gK])) _
 ·simp only[gK,List.singleton_append,List.mem_cons,List.mem_append] at hx ⊢
  rcases hx with hx|hx|hx
  ·exact .inl (.inl hx)
  ·rcases ha with e|⟨b,e,hb⟩
   ·rw[e] at hx;exact .inl (.inr (.inl hx))
   ·rw[e] at hx
    simp at hx
    exact .inr (by omega)
  ·exact .inl (.inr (.inr hx))
theorem BF {M:br→List In} {A:In→vM} {KX:br→In→ByteArray} {S:br} (h:M S=[]):∀ n,db M A KX n S=((0,1),S)
 |0=>by unfold db;rw[h]
 |n+1=>by unfold db;rw[h]
theorem yh {M:br→List In} {A:In→vM} {KX:br→In→ByteArray} {S:br} {i:In} {l:List In} (h:M S=i::l):db M A KX 0 S=((0,2),S):=by unfold db;rw[h]
theorem BJ {M:br→List In} {A:In→vM} {KX:br→In→ByteArray} {S:br} {i:In} {l:List In} (h:M S=i::l) (ha:A i=none) (n:Nat):db M A KX (n+1) S=((0,4),S):=by unfold db;rw[h];simp only[];rw[ha]
theorem pE {M:br→List In} {A:In→vM} {KX:br→In→ByteArray} {S:br} {i:In} {l:List In} {q:List (Nat×Option Int)×Bool} (h:M S=i::l) (ha:A i=some q) (hq:q.2=true) (n:Nat):db M A KX (n+1) S=((1,3),S.fire (KX S i) q.1):=by unfold db;rw[h];simp only[];rw[ha];simp only[];rw[if_pos hq]
theorem uC {M:br→List In} {A:In→vM} {KX:br→In→ByteArray} {S:br} {i:In} {l:List In} {q:List (Nat×Option Int)×Bool} (h:M S=i::l) (ha:A i=some q) (hq:q.2=false) (n:Nat):db M A KX (n+1) S=(((db M A KX n (S.fire (KX S i) q.1)).1.1+1,(db M A KX n (S.fire (KX S i) q.1)).1.2),(db M A KX n (S.fire (KX S i) q.1)).2):=by
 conv=>lhs;unfold db
 rw[h]
 simp only[]
 rw[ha]
 simp only[]
 rw[if_neg (by rw[hq];simp)]
theorem nk {t:Int} (h:dw t=2):bM t=false∧dC t=t - 119∧119≤t∧t≠95:=by
 unfold dw at h
 unfold dC
 split at h
 ·omega
 ·rename_i hd
  split at h
  ·rename_i hl
   refine⟨by simpa using hd,by rw[if_neg hd,if_pos hl],?_,?_⟩
   ·simp[ew] at hl;omega
   ·intro e;subst e;simp[ew] at hl
  ·omega
theorem rC {e e':ff} {t d:Int} (h:jJ e t d=some e'):(∀ n,(e n).isSome=true→(e' n).isSome=true)∧(dw t=2→(e' (dC t).toNat).isSome=true):=by
 unfold jJ at h
 split at h
 ·rename_i h95
  cases h
  exact⟨fun n hn=>hn,fun hk=>absurd h95 (nk hk).2.2.2⟩
 ·split at h
  ·rename_i hd
   split at h
   ·cases h
    exact⟨fun n hn=>hn,fun hk=>by have:=(nk hk).1;rw[this] at hd;cases hd⟩
   ·cases h
  ·split at h
   ·rename_i he
    cases h
    refine⟨fun n hn=>?_,fun hk=>?_⟩
    ·unfold cH
     split
     ·rfl
     ·exact hn
    ·rw[(nk hk).2.1]
     simp[cH]
   ·rename_i v hv
    split at h
    ·cases h
     refine⟨fun n hn=>hn,fun hk=>?_⟩
     rw[(nk hk).2.1,hv]
     rfl
    ·cases h
theorem Bj {e e':ff} {c t1 t2:Int} {q:au} (h:fU e c t1 t2 q=some e'):(∀ n,(e n).isSome=true→(e' n).isSome=true)∧(dw t1=2→(e' (dC t1).toNat).isSome=true)∧(dw t2=2→(e' (dC t2).toNat).isSome=true):=by
 unfold fU at h
 split at h
 ·cases h1:jJ e t1 ((q.1:Int) % 10) with
  |none=>rw[h1] at h;cases h
  |some e1=>
   rw[h1] at h
   have a1:=rC h1
   have a2:=rC (show jJ e1 t2 q.2.1=some e' from h)
   exact⟨fun n hn=>a2.1 n (a1.1 n hn),fun hk=>a2.1 _ (a1.2 hk),a2.2⟩
 ·cases h
theorem nK {e:ff} {t:Int} (hs:bc t=true) (h:dw t=2→(e (dC t).toNat).isSome=true):fE 0 e t=fE (-1) e t:=by
 unfold fE
 split
 ·rfl
 ·rename_i hd
  have hk:dw t=2:=by
   unfold dw
   rw[if_neg hd]
   have:ew t=true:=by
    unfold bc at hs
    simpa [hd] using hs
   rw[if_pos this]
  have:=h hk
  rw[(nk hk).2.1] at this
  obtain⟨v,hv⟩:=Option.isSome_iff_exists.mp this
  rw[hv]
  rfl
theorem l7 {s:ByteArray} {F:List au} {r:Nat} {L:List Nat} (hL:∀ p∈L,b7 s p=true) (hb:b8 s L (fun _=>false)≠none):∀ k,k≤L.length→(L.take k).foldl (kI (-1) s F) [In.start r]=eY s F r L k∧∃ bs,b8 s (L.take k) (fun _=>false)=some bs∧∀ i∈eY s F r L k,∀ n:Nat,bs n=true→(i.env n).isSome=true
 |0,_=>by
  refine⟨rfl,_,rfl,fun i _ n h=>?_⟩
  cases h
 |k+1,hk=>by
  obtain⟨h1,bs,h2,h3⟩:=l7 hL hb k (by omega)
  have hlt:k<L.length:=by omega
  have hok:=hL _ (List.getElem_mem hlt)
  have hct:=jr hlt h2
  have hnn:b8 s (L.take (k+1)) (fun _=>false)≠none:=fun e=>hb (lL e)
  have e1:(L.take (k+1)).foldl (kI (-1) s F) [In.start r]=kI (-1) s F (eY s F r L k) L[k]:=by
   rw[List.take_succ_eq_append_getElem hlt,List.foldl_append,h1]
   rfl
  rw[e1,iJ s F r L k hlt]
  by_cases h33:bt s L[k]=33
  ·have hkd:(dg s L[k]).k=2:=(yK h33).2
   rw[if_neg (by omega)] at hct
   have hlk:ie s L[k] bs=false:=by
    cases hc:ie s L[k] bs with
    |false=>rfl
    |true=>rw[hc] at hct;exact absurd hct hnn
   rw[hlk] at hct
   refine⟨by unfold kI;rw[if_pos h33,if_pos h33],bs,by simpa using hct,fun i hi=>?_⟩
   unfold kI at hi
   rw[if_pos h33] at hi
   exact h3 i (List.mem_filter.mp hi).1
  ·by_cases hc:aQ (bt s L[k])=true
   ·obtain⟨_,hkd⟩:=yy hc
    have ecd:dg s L[k]=lU 1 s L[k]:=by simp[dg,h33,hc]
    rw[if_pos hkd] at hct
    refine⟨by unfold kI;rw[if_neg h33,if_pos hc,if_neg h33,if_pos hc],_,hct,fun i hi n hn=>?_⟩
    unfold kI at hi
    rw[if_neg h33,if_pos hc] at hi
    obtain⟨j,hj,hm⟩:=List.mem_flatMap.mp hi
    unfold iB at hm
    obtain⟨q,_,hq⟩:=List.mem_filterMap.mp hm
    cases hg:fU j.env (bt s L[k]) (bt s (L[k]+1)) (bt s (L[k]+2)) q with
    |none=>rw[hg] at hq;cases hq
    |some e=>
     rw[hg] at hq
     simp only[Option.map_some,Option.some.injEq] at hq
     rw[←hq]
     obtain⟨g1,g2,g3⟩:=Bj hg
     unfold tT at hn
     rw[ecd] at hn
     have hn':(bs n=true∨(dw (bt s (L[k]+1))=2∧(n:Int)=dC (bt s (L[k]+1))))∨(dw (bt s (L[k]+2))=2∧(n:Int)=dC (bt s (L[k]+2))):=by
      simp[lU,ja] at hn
      rcases hn with (h|⟨h1,h2⟩)|⟨h1,h2⟩
      ·exact .inl (.inl h)
      ·exact .inl (.inr ⟨of_decide_eq_true h1,of_decide_eq_true h2⟩)
      ·exact .inr ⟨of_decide_eq_true h1,of_decide_eq_true h2⟩
     rcases hn' with (hn|⟨hk2,hv⟩)|⟨hk2,hv⟩
     ·exact g1 n (h3 j hj n hn)
     ·have:=g2 hk2
      rw[←hv] at this
      simpa using this
     ·have:=g3 hk2
      rw[←hv] at this
      simpa using this
   ·have hcf:aQ (bt s L[k])=false:=by simpa using hc
    obtain⟨_,hkd⟩:=yB h33 hcf
    obtain⟨t1,_,t3⟩:=tR hok h33 hcf
    have ecd:dg s L[k]=rf s L[k]:=by simp[dg,h33,hcf]
    rw[if_neg (by omega)] at hct
    have hlk:ie s L[k] bs=false:=by
     cases hc:ie s L[k] bs with
     |false=>rfl
     |true=>rw[hc] at hct;exact absurd hct hnn
    rw[hlk] at hct
    have hlk3:=hlk
    unfold ie at hlk3
    rw[ecd] at hlk3
    have hlk2:(dw (bt s L[k])=2→bs (dC (bt s L[k])).toNat=true)∧(dw (bt s (L[k]+2))=2→bs (dC (bt s (L[k]+2))).toNat=true):=by
     simp[rf,e8] at hlk3
     exact⟨fun h=>hlk3.1 (decide_eq_true h),fun h=>hlk3.2 (decide_eq_true h)⟩
    refine⟨?_,bs,by simpa using hct,fun i hi=>?_⟩
    ·unfold kI
     rw[if_neg h33,if_neg hc,if_neg h33,if_neg hc]
     refine List.filter_congr fun i hi=>?_
     have hb3:=h3 i hi
     rw[nK t1 (fun hk2=>?_),nK t3 (fun hk2=>?_)]
     ·exact hb3 _ (hlk2.2 hk2)
     ·exact hb3 _ (hlk2.1 hk2)
    ·unfold kI at hi
     rw[if_neg h33,if_neg hc] at hi
     exact h3 i (List.mem_filter.mp hi).1
theorem Ff {s:ByteArray} {F:List au} {r:Nat} {L:List Nat} (hL:∀ p∈L,b7 s p=true) (hb:b8 s L (fun _=>false)≠none):dz (-1) s F r L=dz 0 s F r L:=by
 have:=(l7 (F:=F) (r:=r) hL hb L.length (Nat.le_refl _)).1
 rw[List.take_length] at this
 rw[←jE]
 exact this
theorem yz {s:ByteArray} {F:List au} {R:List ax} (hL:∀ r∈R,∀ p∈r.2.1,b7 s p=true) (hb:∀ r∈R,b8 s r.2.1 (fun _=>false)≠none):∀ n,n≤R.length→bz (-1) s F R n=bz 0 s F R n
 |0,_=>rfl
 |n+1,hn=>by
  have hlt:n<R.length:=by omega
  have e:R.getD n (0,[],[])=R[n]:=by simp[List.getD,List.getElem?_eq_getElem hlt]
  rw[fW,fW,yz hL hb n (by omega),e,Ff (hL _ (List.getElem_mem hlt)) (hb _ (List.getElem_mem hlt))]
def jc (n sn t:Int):Int:=if t=0 then -n - 2 else if t≤sn then t - n - 1 else t - sn
theorem pa {n sn t u:Int} (hs:0≤sn) (hn:sn≤n) (ht:0≤t) (h:t<u):jc n sn t<jc n sn u:=by
 unfold jc
 split <;> split <;> (try split) <;> (try split) <;> omega
theorem Da {n sn t u:Int} (hs:0≤sn) (hn:sn≤n) (ht:0≤t) (hu:0≤u):(if jc n sn u>jc n sn t then jc n sn u else jc n sn t)=jc n sn (if u>t then u else t):=by
 by_cases h:t<u
 ·rw[if_pos (pa hs hn ht h),if_pos h]
 ·rw[if_neg h,if_neg]
  by_cases e:u=t
  ·subst e;omega
  ·have:=pa hs hn hu (show u<t by omega)
   omega
theorem Cq {X:ap} {E:bk} {L:List (Nat×br)} (h:g9 X E L) {q:Nat×br} (hq:q∈L) {p:au} (hp:p∈fQ X q.1):0<p.2.2∧(dn E.com q.2 (aw p.1)).2=jc E.com.length q.2.snap p.2.2:=by
 have hs:=h.ses q hq
 have hsn:=h.snap q hq
 unfold fQ di at hp
 obtain⟨c,hc,hm⟩:=List.mem_filterMap.mp hp
 have hc60:c<60:=by simpa using hc
 cases hst:cM (X.ses q.1) (fun c=>aM (X.hist c) (X.ses q.1).snap) c with
 |none=>rw[hst] at hm;cases hm
 |some r=>
  rw[hst] at hm
  simp only[Option.map_some,Option.some.injEq] at hm
  subst hm
  simp only[]
  unfold cM at hst
  cases hl:bd (aw c) q.2.wr with
  |some k=>
   have ht:=hs.tm c hc60 k hl
   have hw:(X.ses q.1).wr c=bR q.2.wr (aw c):=hs.wr c hc60
   have hsome:((X.ses q.1).wr c).isSome=true:=by
    rw[hw]
    unfold bR
    rw[hl]
    rfl
   obtain⟨v,hv⟩:=Option.isSome_iff_exists.mp hsome
   rw[hv] at hst
   simp only at hst
   cases v with
   |none=>cases hst
   |some y=>
    simp only[Option.map_some,Option.some.injEq] at hst
    rw[←hst]
    simp only[]
    rw[ht]
    refine⟨by omega,?_⟩
    unfold dn jc
    rw[hl]
    simp only[]
    rw[if_neg (by omega),if_neg (by omega)]
    omega
  |none=>
   have hw:(X.ses q.1).wr c=bR q.2.wr (aw c):=hs.wr c hc60
   have hnone:(X.ses q.1).wr c=none:=by
    rw[hw]
    unfold bR
    rw[hl]
    rfl
   rw[hnone] at hst
   simp only at hst
   have e1:(X.ses q.1).snap=(q.2.snap.toNat:Int):=by rw[hs.snap];omega
   have hle:q.2.snap.toNat≤E.com.length:=by omega
   have h2:=h.hist c hc60 q.2.snap.toNat hle
   have h1:=h.histS c hc60 q.2.snap.toNat hle
   rw[←gn,←e1] at h2
   rw[←e1] at h1
   cases hv2:(aM (X.hist c) (X.ses q.1).snap).2 with
   |none=>rw[hv2] at hst;cases hst
   |some y=>
    rw[hv2] at hst h2
    simp only[Option.map_some,Option.some.injEq] at hst
    rw[←hst]
    simp only[]
    rw[h1]
    have hb:=nS E.com (aw c) q.2.snap.toNat
    have hpos:(dK E.com (aw c) q.2.snap.toNat).2≠0:=by
     intro e
     have hz:∀ t,(dK E.com (aw c) t).2=0→(dK E.com (aw c) t).1=-1:=by
      intro t
      induction t with
      |zero=>intro _;rfl
      |succ t ih=>
       unfold dK
       split
       ·intro h3;simp only[] at h3;omega
       ·exact ih
     rw[hz _ e] at h2
     simp[lH] at h2
    refine⟨by omega,?_⟩
    unfold dn jc
    rw[hl]
    simp only[]
    rw[if_neg hpos,if_pos (by omega)]
theorem yM {X:ap} {E:bk} {L:List (Nat×br)} (h:g9 X E L) {q:Nat×br} (hq:q∈L) {l:List au} (hl:∀ p∈l,p∈fQ X q.1):0≤b9 l∧gO E.com q.2 l=jc E.com.length q.2.snap (b9 l):=by
 have hsn:=h.snap q hq
 have key:∀ (l:List au) (m:Int),0≤m→(∀ p∈l,p∈fQ X q.1)→0≤l.foldl (fun m q=>if q.2.2>m then q.2.2 else m) m∧l.foldl (fun n p=>if (dn E.com q.2 (aw p.1)).2>n then (dn E.com q.2 (aw p.1)).2 else n) (jc E.com.length q.2.snap m)=jc E.com.length q.2.snap (l.foldl (fun m q=>if q.2.2>m then q.2.2 else m) m):=by
  intro l
  induction l with
  |nil=>intro m hm _;exact⟨hm,rfl⟩
  |cons p l ih=>
   intro m hm hl
   obtain⟨h1,h2⟩:=Cq h hq (hl p (by simp))
   rw[List.foldl_cons,List.foldl_cons,h2,Da hsn.1 hsn.2 hm (by omega)]
   refine ih _ ?_ (fun r hr=>hl r (by simp[hr]))
   split <;> omega
 have:=key l 0 (by omega) hl
 exact this
theorem wM {n sn:Int} (hs:0≤sn) (hn:sn≤n) {ta tb:Int} (ha:0≤ta) (hb:0≤tb) (ua ub:Int) (ra rb:Nat) (lt:Bool) (hlt:(ra≠rb→¬ra<rb)∧(ra=rb→lt=false)) :
  kh ua ub (jc n sn ta) (jc n sn tb) ra rb lt=Dm ua ta ub tb:=by
 unfold kh Dm
 by_cases hu:ua≠ub
 ·rw[if_pos hu,if_pos hu]
 ·rw[if_neg hu,if_neg hu]
  by_cases ht:ta=tb
  ·subst ht
   rw[if_neg (by simp)]
   by_cases hr:ra=rb
   ·rw[if_neg (by simpa using hr),hlt.2 hr]
    simp
   ·rw[if_pos hr]
    have:=hlt.1 hr
    simp[this]
  ·rcases Int.lt_or_gt_of_ne ht with h|h
   ·have:=pa hs hn ha h
    rw[if_pos (by omega)]
    have e1:¬jc n sn ta>jc n sn tb:=by omega
    have e2:¬ta>tb:=by omega
    simp[e1,e2]
   ·have:=pa hs hn hb h
    rw[if_pos (by omega)]
    have e1:jc n sn ta>jc n sn tb:=by omega
    have e2:ta>tb:=by omega
    simp[e1,e2]
end Go.Proofs.YthlhbjnkohinmaaGreat
