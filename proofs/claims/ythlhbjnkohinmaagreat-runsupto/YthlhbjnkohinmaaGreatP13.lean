import Derived.Test.YthlhbjnkohinmaaGreatP11
import Derived.Test.YthlhbjnkohinmaaGreatP05
import Derived.Deep.AppendLies
import Derived.Test.YthlhbjnkohinmaaGreatP12
namespace Go.Proofs.YthlhbjnkohinmaaGreat
set_option maxRecDepth 100000
set_option maxHeartbeats 8000000
open Go.RowKit
theorem rB (b o:Nat)(X:ap)(kv:Nat→Value)(S:aJ)(w:World)(h:jo w b o X kv):
  Calls Tryz.prog 54 #[.pointer (some ⟨b,o,none⟩),.agg (aZ S.wr S.tm).toArray,.int .i64 S.snap] w fun e w'=>e=.returned (.bool (clash X S))∧w.grownBy w' none:=by
 have HL:=af h.last
 have hbl:b<w.heap.size:=World.block_lt_of_cell? w _ h.latest
 have hbz:b≠w.heap.size:=by omega
 have HM:Hid (∀ c,c<60→(w.alloc (.cells (aZ S.wr S.tm).toArray 77)).cell? ⟨w.heap.size,c*4,none⟩=some (.bool (iX (S.wr c)))):=af (fun c hc=>by
  rw[cell_of_row _ _ _ _ _ _ (heap_alloc_new w _)]
  simpa using (dY S.wr S.tm hc).1)
 clear h
 obtain⟨r,hr⟩:∃ r,r=clash X S:=⟨_,rfl⟩
 rw[←hr]
 have HR:=af hr
 obtain⟨sn,hsn⟩:∃ sn,sn=S.snap:=⟨_,rfl⟩
 rw[←hsn]
 have HSN:=af hsn
 obtain⟨ca,hca⟩:∃ ca,ca=(aZ S.wr S.tm).toArray:=⟨_,rfl⟩
 rw[←hca] at HM ⊢
 clear hr hsn hca
 go_enter Tryz.func54,Tryz.ntmps54
 go_wp2_with fail
 go_loop [7] (fun t=>∃ k:Nat,k≤60∧t=.int .i64 k∧∀ j,j<k→((S.wr j).isSome&&decide (X.last j>sn))=false) (fun t=>60 - (intOf t).toNat)
 case atStart=>exact⟨0,by omega,rfl,fun j h=>by omega⟩
 case round=>
  obtain⟨k,hk,rfl,hno⟩:=hrel
  have HN:=af hno
  clear hno
  by_cases hlt:k<60
  ·have d0:=HM.out k hlt
   have d1:w.cell? ⟨b,o+1+k*2,none⟩=some (.int .i64 (X.last k)):=HL.out k hlt
   obtain⟨ls,hls⟩:∃ ls,ls=X.last k:=⟨_,rfl⟩
   rw[←hls] at d1
   have HLS:=af hls
   clear hls
   cases hm:iX (S.wr k) with
   |true=>
    rw[hm] at d0
    by_cases hgt:ls>sn
    ·have HU:Hid (r=true):=af (by
      rw[HR.out]
      unfold clash
      rw[List.any_eq_true]
      refine⟨k,by simpa using hlt,?_⟩
      have h1:(S.wr k).isSome=true:=hm
      rw[h1,←HLS.out,←HSN.out]
      simpa using hgt)
     clear hm
     go_wp2
     go_ret
     exact⟨by rw[HU.out];rfl,ab (ag _ _) _⟩
    ·have HN':Hid (∀ j,j<k+1→((S.wr j).isSome&&decide (X.last j>sn))=false):=af (by
      intro j hj
      by_cases e:j=k
      ·subst e
       rw[←HLS.out]
       simp only[Bool.and_eq_false_iff]
       right
       simpa using hgt
      ·exact HN.out j (by omega))
     clear hm
     go_wp2
     go_round
     case rel=>exact⟨k+1,by omega,by go_num,HN'.out⟩
     case measure=>simp[intOf];omega
   |false=>
    rw[hm] at d0
    have HN':Hid (∀ j,j<k+1→((S.wr j).isSome&&decide (X.last j>sn))=false):=af (by
     intro j hj
     by_cases e:j=k
     ·subst e
      have h1:(S.wr j).isSome=false:=hm
      rw[h1];rfl
     ·exact HN.out j (by omega))
    clear hm
    go_wp2
    go_round
    case rel=>exact⟨k+1,by omega,by go_num,HN'.out⟩
    case measure=>simp[intOf];omega
  ·have HU:Hid (r=false):=af (by
    rw[HR.out]
    unfold clash
    rw[List.any_eq_false]
    intro j hj
    have:=HN.out j (by have:j<60:=by simpa using hj
                       omega)
    rw[←HSN.out,this]
    simp)
   go_wp2
   go_ret
   exact⟨by rw[HU.out];rfl,ab (ag _ _) _⟩
theorem Tryz.info138:(Tryz.prog.info? 138).map (fun i=>(i.zero,i.size,i.bytes))=some (some (.agg #[.int .i64 0,.bool false,.int .i64 0]),3,24):=by kernel_rfl
theorem Do (b o:Nat)(l:List (Int×Option Int))(st:Int)(q:Option Int)(a:Option Addr)(cp:Nat)(cs:Array Value)(w:World)(hl:(l.length+1)*24≤140737488355328)
  (hb:w.heap[b]?=some (.cells cs 91 (0,0))) (ho:o+1<cs.size) (hc:cs[o+1]?=some (.slice a l.length cp)) (hrow:w.ownsRow 0 138 3 (.slice a l.length cp) l.length (cu l)) :
  Calls Tryz.prog 86 #[.pointer (some ⟨b,o,none⟩),.agg #[.int .i64 st,.bool q.isSome,.int .i64 (q.getD 0)]] w fun e w'=>e=.returned (.tuple #[])∧
   ∃ g3 c' w3,((Value.slice a l.length cp).ownBlock=some g3∨w.heap.size≤g3)∧w3.ownsRow 0 138 3 (.slice (some ⟨g3,0,none⟩) (l.length+1) c') (l.length+1) (cu (l++[(st,q)]))∧w3.heap[b]?=some (.cells (cs.setIfInBounds o (.int .i64 st)) 91 (0,0))∧
     w'=w3.setCell ⟨b,o+1,none⟩ (.slice (some ⟨g3,0,none⟩) (l.length+1) c')∧Fr (b::(Value.slice a l.length cp).ownBlock.toList) w w3:=by
 obtain⟨i0,hi0,hz0,hz1,hz2⟩:=info_parts Tryz.info138
 have hbl:=lt_of_block hb
 have hbz:b≠w.heap.size:=by omega
 have hne:(Value.slice a l.length cp).ownBlock≠some b:=aT hrow hb (by decide)
 have k0:w.cell? ⟨b,o,none⟩=some (cs[o]'(by omega)):=by rw[cell_of_row _ _ _ _ _ _ hb,Array.getElem?_eq_getElem (by omega)]
 have k1:w.cell? ⟨b,o+1,none⟩=some (.slice a l.length cp):=by rw[cell_of_row _ _ _ _ _ _ hb];exact hc
 have z0:=ai hb o
 have z1:=ai hb (o+1)
 generalize cs[o]'_=u0 at k0
 obtain⟨fl,hfl⟩:∃ fl,fl=q.isSome:=⟨_,rfl⟩
 obtain⟨vl,hvl⟩:∃ vl,vl=q.getD 0:=⟨_,rfl⟩
 have HHV:Hid (cu (l++[(st,q)])=cu l++[.int .i64 st,.bool fl,.int .i64 vl]):=af (by rw[mT,hfl,hvl])
 rw[←hfl,←hvl]
 have HB:=af hb
 have hbW:(w.setCell ⟨b,o,none⟩ (.int .i64 st)).heap[b]?=some (.cells (cs.setIfInBounds o (.int .i64 st)) 91 (0,0)):=ah hb o _
 have HBW:=af hbW
 have hrow0:(w.setCell ⟨b,o,none⟩ (.int .i64 st)).ownsRow 0 138 3 (.slice a l.length cp) l.length (cu l):=ownsRow_setCell_other hrow hne _
 have hszW:(w.setCell ⟨b,o,none⟩ (.int .i64 st)).heap.size=w.heap.size:=by simp[World.setCell]
 have j1:(w.setCell ⟨b,o,none⟩ (.int .i64 st)).cell? ⟨b,o+1,none⟩=some (.slice a l.length cp):=by rw[World.cell?_setCell_other _ _ _ _ (by intro e;simp at e)];exact k1
 have HFW:Hid (Fr [b] w (w.setCell ⟨b,o,none⟩ (.int .i64 st))):=af ((Fr.refl [b] w).set (.inl (by simp)) _)
 clear hfl hvl hb hbW hc hrow
 go_enter Tryz.func86,Tryz.ntmps86
 go_wp2_with fail
 generalize w.setCell ⟨b,o,none⟩ (.int .i64 st)=W0 at HBW hrow0 hszW j1 HFW ⊢
 rw[←hszW]
 have hbz0:b≠W0.heap.size:=by omega
 have hbz1:b<W0.heap.size:=by omega
 have HSZ:=af hszW
 clear hszW k0 k1 z0 z1 hbl hbz
 go_region_law (
  refine step_append_lies _ rfl (.tmp 13) (.tmp 15) 84 rfl 0 138 i0 (.agg #[.int .i64 0,.bool false,.int .i64 0]) 3 24 Tryz.underlying84 hi0 hz0 hz1 hz2 rfl (by decide) (.slice a l.length cp) l.length (cu l) (by simp[Act.eval]) (dx ((hrow0.alloc _).alloc _) rfl) ⟨W0.heap.size+1,0,none⟩ 1 1 [.int .i64 st,.bool fl,.int .i64 vl] (by simp[Act.eval]) rfl (fun j u hj=>by
   have:=bj (w:=W0.alloc (.cells #[.int .i64 st,.bool fl,.int .i64 vl] 138)) (t:=138) hj
   simpa using this) (fun u hu=>by simp at hu;rcases hu with h|h|h <;> subst h <;> rfl) (by decide) (by unfold maxLen;omega) hl (Nat.zero_le _) _ rfl (fun g3 c3 w3 hown3 hg3 hva3 hvl3=>?_)
  have hb3:w3.heap[b]?=some (.cells (cs.setIfInBounds o (.int .i64 st)) 91 (0,0)):=(hg3.block b (by simp;omega) (fun e=>hne e.symm)).trans ((Below.heap_alloc _ _ _ (by simp;omega)).trans ((Below.heap_alloc _ _ _ hbz1).trans HBW.out))
  have d3:w3.cell? ⟨b,o+1,none⟩=some (.slice a l.length cp):=by
   rw[cell_of_row _ _ _ _ _ _ hb3,←j1,cell_of_row _ _ _ _ _ _ HBW.out]
  have z3:w3.frozen? ⟨b,o+1,none⟩=false:=ai hb3 _)
 all_goals
  have HFIN:Hid (Fr (b::(Value.slice a l.length cp).ownBlock.toList) w w3):=af (by
   have a1:=(((Fr.refl [] W0).alloc (.cells #[.int .i64 st,.bool fl,.int .i64 vl] 138)).drewN 1).alloc (.cells #[.int .i64 st,.bool fl,.int .i64 vl] 138)
   exact (HFW.out.mono (fun k hk=>.inl (by simp at hk ⊢;exact .inl hk))).trans ((a1.mono (fun k hk=>by cases hk)).trans ((Fr.grown hg3).mono (fun k hk=>.inl (by simp at hk ⊢;exact .inr hk)))))
  have HOW:=af hown3
  have HB3:=af hb3
  have HVA:=af hva3
  clear hown3 hg3 hb3 hva3
  go_wp2_with fail
  go_returns
  refine⟨rfl,g3,c3,w3,?_,by rw[HHV.out];exact HOW.out,HB3.out,rfl,HFIN.out⟩
  rcases HVA.out with h|h
  ·exact .inl h
  ·exact .inr (by have:=HSZ.out;rw[h];simp;omega)
def ap.addV (X:ap)(c:Nat)(p:Int×Option Int):ap:={ X with last:=cI X.last c p.1,hist:=cI X.hist c (X.hist c++[p]) }
theorem gW {α:Type}(f:Nat→α)(c:Nat)(v:α)(n:Nat):(List.range n).map (cI f c v)=((List.range n).map f).set c v:=by
 apply List.ext_getElem
 ·simp
 intro i h1 h2
 simp only[List.getElem_map,List.getElem_range,List.getElem_set]
 by_cases e:c=i
 ·subst e;simp[cI]
 ·rw[if_neg e,bF _ _ _ (fun h=>e h.symm)]
theorem jv.of_block {w:World}{x:Nat}{X:ap}{kv:Nat→Value}{cs:Array Value}(h:jv w x X kv)(hb:w.heap[x]?=some (.cells cs 91 (0,0))){w':World}{c:Nat}(hc:c<60)(st:Int)(nv:Value)
  (hb':w'.heap[x]?=some (.cells ((cs.setIfInBounds (1955+1+c*2) (.int .i64 st)).setIfInBounds (1955+1+c*2+1) nv) 91 (0,0))) (p:Option Int) :
  jv w' x (X.addV c (st,p)) (cI kv c nv):=by
 have e0:∀ i v,w.cell? ⟨x,i,none⟩=some v→cs[i]?=some v:=fun i v hv=>by rw[cell_of_row _ _ _ _ _ _ hb] at hv;exact hv
 have far:∀ i v,i≠1955+1+c*2→i≠1955+1+c*2+1→w.cell? ⟨x,i,none⟩=some v→w'.cell? ⟨x,i,none⟩=some v:=fun i v h1 h2 hv=>by
  rw[cell_of_row _ _ _ _ _ _ hb',Array.getElem?_setIfInBounds_ne (fun e=>h2 e.symm),Array.getElem?_setIfInBounds_ne (fun e=>h1 e.symm)]
  exact e0 i v hv
 have hsz:1955+1+c*2+1<cs.size:=(Array.getElem?_eq_some_iff.mp (e0 _ _ (h.store.kept c hc))).1
 refine⟨⟨_,hb'⟩,far _ _ (by omega) (by omega) h.rules,far _ _ (by omega) (by omega) h.room,far _ _ (by omega) (by omega) h.opened,fun k hk=>?_,⟨far _ _ (by omega) (by omega) h.store.latest,fun d hd=>?_,fun d hd=>?_⟩⟩
 ·have hs:=h.ses k hk
  exact⟨far _ _ (by omega) (by omega) hs.num,far _ _ (by omega) (by omega) hs.snap,far _ _ (by omega) (by omega) hs.cnt,fun d hd=>far _ _ (by omega) (by omega) (hs.made d hd),fun d hd=>far _ _ (by omega) (by omega) (hs.filled d hd),fun d hd=>far _ _ (by omega) (by omega) (hs.val d hd),fun d hd=>far _ _ (by omega) (by omega) (hs.tm d hd),far _ _ (by omega) (by omega) hs.mks,hs.ok⟩
 ·show World.cell? _ _=some (Value.int .i64 (cI X.last c st d))
  by_cases e:d=c
  ·subst e
   rw[aW,cell_of_row _ _ _ _ _ _ hb',Array.getElem?_setIfInBounds_ne (by omega),Array.getElem?_setIfInBounds_self_of_lt (by omega)]
  ·rw[bF _ _ _ e]
   exact far _ _ (by omega) (by omega) (h.store.last d hd)
 ·by_cases e:d=c
  ·subst e
   rw[aW,cell_of_row _ _ _ _ _ _ hb',Array.getElem?_setIfInBounds_self_of_lt (by simp;omega)]
  ·rw[bF _ _ _ e]
   exact far _ _ (by omega) (by omega) (h.store.kept d hd)
theorem BT (x:Nat)(X:ap)(f:List Nat)(c:Nat)(st:Int)(q:Option Int)(w:World)(hc:c<60)(h:aV x X w f)(hn:f.Nodup)(hl:((X.hist c).length+1)*24≤140737488355328):
  Calls Tryz.prog 86 #[.pointer (some ⟨x,1955+1+c*2,none⟩),.agg #[.int .i64 st,.bool q.isSome,.int .i64 (q.getD 0)]] w fun e w'=>e=.returned (.tuple #[])∧cO (aV x (X.addV c (st,q))) f w w':=by
 have hwi:=aV.within _ _ h
 obtain⟨kv,hP,f2,hE,rfl⟩:=h
 obtain⟨cs,hb⟩:=hP.block
 have hkc:=hP.store.kept c hc
 have hlen1:c<((List.range 60).map kv).length:=by simpa using hc
 have hlen2:c<((List.range 60).map X.hist).length:=by simpa using hc
 obtain⟨fa,g,fb,hh,e2,hput⟩:=aB.focus ig.framed hE c hlen1 hlen2
 subst e2
 simp only[List.getElem_map,List.getElem_range] at hh
 obtain⟨hrow,rfl⟩:=hh
 obtain⟨a,m,cp,hkv⟩:=an hrow
 rw[hkv] at hrow hkc hn hwi
 have em:=ar hrow
 subst em
 have hcs:cs[1955+1+c*2+1]?=some (.slice a (X.hist c).length cp):=by rw[cell_of_row _ _ _ _ _ _ hb] at hkc;exact hkc
 have hsz:=(Array.getElem?_eq_some_iff.mp hcs).1
 refine (Do x (1955+1+c*2) (X.hist c) st q a cp cs w hl hb hsz hcs hrow).mono ?_
 rintro e w' ⟨rfl,g3,c',w3,hg3,hown3,hb3,rfl,hfr⟩
 refine⟨rfl,?_⟩
 have hb4:(w3.setCell ⟨x,1955+1+c*2+1,none⟩ (.slice (some ⟨g3,0,none⟩) ((X.hist c).length+1) c')).heap[x]?=some (.cells ((cs.setIfInBounds (1955+1+c*2) (.int .i64 st)).setIfInBounds (1955+1+c*2+1) (.slice (some ⟨g3,0,none⟩) ((X.hist c).length+1) c')) 91 (0,0)):=ah hb3 _ _
 have hP':=hP.of_block hb hc st _ hb4 q
 have hfr4:Fr (x::(Value.slice a (X.hist c).length cp).ownBlock.toList) w (w3.setCell ⟨x,1955+1+c*2+1,none⟩ (.slice (some ⟨g3,0,none⟩) ((X.hist c).length+1) c')):=hfr.set (.inl (by simp)) _
 have hn2:((x::fa)++((Value.slice a (X.hist c).length cp).ownBlock.toList++fb)).Nodup:=by simpa using hn
 have hdis:∀ k,k∈fa∨k∈fb→k∉x::(Value.slice a (X.hist c).length cp).ownBlock.toList:=by
  intro k hk hk2
  rw[List.nodup_append] at hn2
  obtain⟨n1,n2,d1⟩:=hn2
  rw[List.nodup_cons] at n1
  rw[List.nodup_append] at n2
  rcases List.mem_cons.mp hk2 with e|e
  ·subst e
   rcases hk with h|h
   ·exact n1.1 h
   ·exact d1 k (by simp) k (by simp[h]) rfl
  ·rcases hk with h|h
   ·exact d1 k (by simp[h]) k (List.mem_append_left _ e) rfl
   ·exact n2.2.2 k e k h rfl
 have hH:ig (.slice (some ⟨g3,0,none⟩) ((X.hist c).length+1) c') (X.hist c++[(st,q)]) (w3.setCell ⟨x,1955+1+c*2+1,none⟩ (.slice (some ⟨g3,0,none⟩) ((X.hist c).length+1) c')) [g3]:=by
  refine⟨?_,rfl⟩
  simp only[List.length_append,List.length_cons,List.length_nil]
  exact ownsRow_setCell_other hown3 (aT hown3 hb3 (by decide)) _
 have hE':=hput _ _ _ _ _ hH hfr4 (fun k hk=>hdis k (.inl hk)) (fun k hk=>hdis k (.inr hk))
 have hg4:g3∈(Value.slice a (X.hist c).length cp).ownBlock.toList∨w.heap.size≤g3:=by
  rcases hg3 with h|h
  ·exact .inl (by rw[h];simp)
  ·exact .inr h
 refine⟨x::(fa++([g3]++fb)),⟨_,hP',_,?_,rfl⟩,?_,?_,?_⟩
 ·show aB ig ((List.range 60).map (cI kv c _)) ((List.range 60).map (cI X.hist c _)) _ _
  rw[gW,gW]
  exact hE'
 ·have:=ed (fa:=x::fa) (g:=(Value.slice a (X.hist c).length cp).ownBlock.toList) (g':=[g3]) (fb:=fb) (N:=w.heap.size) hn2 (fun k hk=>hwi k (by simpa using hk)) (by simp) (fun k hk=>by simp only[List.mem_singleton] at hk;subst hk;exact hg4)
  simpa using this
 ·intro k hk
  rw[hkv]
  have:k=g3→k∈(Value.slice a (X.hist c).length cp).ownBlock.toList∨w.heap.size≤k:=fun e=>by subst e;exact hg4
  simp only[List.mem_cons,List.mem_append,List.not_mem_nil,or_false] at hk ⊢
  grind
 ·rw[hkv]
  exact hfr4.mono (fun k hk=>.inl (by simp only[List.mem_cons,List.mem_append] at hk ⊢;grind))
def kJ (X:ap)(S:aJ)(k:Nat):ap:={ X with
 latest:=X.latest+1
 last:=fun c=>if c<k∧(S.wr c).isSome then X.latest+1 else X.last c
 hist:=fun c=>if c<k then (match S.wr c with|some v=>X.hist c++[(X.latest+1,v)]|none=>X.hist c) else X.hist c }
theorem AT (X:ap)(S:aJ){k:Nat}(h:S.wr k=none):kJ X S (k+1)=kJ X S k:=by
 unfold kJ
 congr 1
 ·funext c
  by_cases e:c=k
  ·subst e;simp[h]
  ·have:(c<k+1)=(c<k):=by apply propext;omega
   simp only[this]
 ·funext c
  by_cases e:c=k
  ·subst e;simp[h]
  ·have:(c<k+1)=(c<k):=by apply propext;omega
   simp only[this]
theorem AY (X:ap)(S:aJ){k:Nat}{v:Option Int}(h:S.wr k=some v):kJ X S (k+1)=(kJ X S k).addV k (X.latest+1,v):=by
 unfold kJ ap.addV
 congr 1
 ·funext c
  by_cases e:c=k
  ·subst e;simp[cI,h]
  ·have:(c<k+1)=(c<k):=by apply propext;omega
   simp only[this,cI,e,if_false]
 ·funext c
  by_cases e:c=k
  ·subst e;simp[cI,h]
  ·have:(c<k+1)=(c<k):=by apply propext;omega
   simp only[this,cI,e,if_false]
theorem aV.congr {x:Nat}{X X':ap}{w:World}{f:List Nat}(h:aV x X w f)(h0:X'.src=X.src)(h1:X'.opened=X.opened)(h2:X'.ses=X.ses)(h3:X'.latest=X.latest)(h4:∀ c,c<60→X'.last c=X.last c)(h5:∀ c,c<60→X'.hist c=X.hist c):aV x X' w f:=by
 obtain⟨kv,hP,f2,hE,rfl⟩:=h
 refine⟨kv,⟨hP.block,by rw[h0];exact hP.rules,by unfold ap.room;rw[h0];exact hP.room,by rw[h1];exact hP.opened,fun k hk=>by rw[h2];exact hP.ses k hk,⟨by rw[h3];exact hP.store.latest,fun c hc=>by rw[h4 c hc];exact hP.store.last c hc,hP.store.kept⟩⟩,f2,?_,rfl⟩
 have:(List.range 60).map X'.hist=(List.range 60).map X.hist:=List.map_congr_left (fun c hc=>h5 c (by simpa using hc))
 rw[this]
 exact hE
theorem Dt {x:Nat}{X:ap}{S:aJ}{w:World}{f:List Nat}(h:aV x (kJ X S 60) w f):aV x (X.commit S) w f:=
 h.congr rfl rfl rfl rfl (fun c hc=>by simp[kJ,ap.commit,hc]) (fun c hc=>by simp only[kJ,ap.commit,hc,if_true];cases S.wr c <;> rfl)
theorem tG {f S:List Nat}{w w1 w2:World}(h:Fr f w w1)(k:Fr S w1 w2)(hs:∀ x∈S,x∈f∨w.heap.size≤x):Fr f w w2:=
 ⟨k.os.trans h.os,k.tape.trans h.tape,k.output.trans h.output,Nat.le_trans h.size k.size,fun i hi hf=>(k.block i (Nat.lt_of_lt_of_le hi h.size) (fun e=>by rcases hs i e with h|h;exact hf h;omega)).trans (h.block i hi hf)⟩
theorem cO.then {P P':eZ}{f:List Nat}{w w1 w2:World}(h:cO P f w w1)(k:∀ f',P w1 f'→f'.Nodup→cO P' f' w1 w2):cO P' f w w2:=by
 obtain⟨f1,a,n,s,r⟩:=h
 obtain⟨f2,a2,n2,s2,r2⟩:=k f1 a n
 refine⟨f2,a2,n2,fun x hx=>?_,tG r r2 s⟩
 rcases s2 x hx with h|h
 ·exact s x h
 ·exact .inr (Nat.le_trans r.size h)
theorem jv.bump {w:World}{x:Nat}{X:ap}{kv:Nat→Value}(h:jv w x X kv)(v:Int):jv (w.setCell ⟨x,1955,none⟩ (.int .i64 v)) x { X with latest:=v } kv:=by
 obtain⟨cs,hb⟩:=h.block
 have hc:kB w (w.setCell ⟨x,1955,none⟩ (.int .i64 v)) x 1955 1:=(kB.refl w x 1955 1).set (by omega) (by omega) _
 refine⟨hc.blk hb,(hc.cell _ (by omega)).trans h.rules,(hc.cell _ (by omega)).trans h.room,(hc.cell _ (by omega)).trans h.opened,fun k hk=>(h.ses k hk).other hc (by omega),⟨?_,fun c hcl=>(hc.cell _ (by omega)).trans (h.store.last c hcl),fun c hcl=>(hc.cell _ (by omega)).trans (h.store.kept c hcl)⟩⟩
 rw[World.cell?_setCell_same _ _ _ h.store.latest]
theorem uD (x:Nat)(X:ap)(S:aJ)(f:List Nat)(w:World)(h:aV x X w f)(hn:f.Nodup)(hlat:0≤X.latest∧X.latest<9223372036854775807)(hl:∀ c,c<60→((X.hist c).length+1)*24≤140737488355328):
  Calls Tryz.prog 57 #[.pointer (some ⟨x,1955,none⟩),.agg (aZ S.wr S.tm).toArray] w fun e w'=>e=.returned (.int .i64 (X.latest+1))∧cO (aV x (X.commit S)) f w w':=by
 have hwi:=aV.within _ _ h
 obtain⟨hlat0,hlat1⟩:=hlat
 have hH:w.heap.size∉f:=fun e=>by have:=hwi _ e;omega
 obtain⟨kv,hk0⟩:=h
 obtain⟨cs,hb⟩:=hk0.1.block
 have c0:=hk0.1.store.latest
 have z0:=ai hb 1955
 have hxl:=lt_of_block hb
 have hxz:x≠w.heap.size:=by omega
 have HST:Hid (cO (aV x (kJ X S 0)) f (w.alloc (.cells (aZ S.wr S.tm).toArray 77)) ((w.setCell ⟨x,1955,none⟩ (.int .i64 (X.latest+1))).alloc (.cells (aZ S.wr S.tm).toArray 77))):=af (by
  have hp:gN x { X with latest:=X.latest+1 } kv (w.alloc (.cells (aZ S.wr S.tm).toArray 77)) ((w.setCell ⟨x,1955,none⟩ (.int .i64 (X.latest+1))).alloc (.cells (aZ S.wr S.tm).toArray 77)):=by
   refine⟨(hk0.1.bump (X.latest+1)).fr (aA _ _) (by simp),?_⟩
   have e:(w.alloc (.cells (aZ S.wr S.tm).toArray 77)).setCell ⟨x,1955,none⟩ (.int .i64 (X.latest+1))=(w.setCell ⟨x,1955,none⟩ (.int .i64 (X.latest+1))).alloc (.cells (aZ S.wr S.tm).toArray 77):=World.setCell_alloc_past _ x 1955 _ hxl
   rw[←e]
   exact (Fr.refl [x] _).set (.inl (by simp)) _
  have:=gN.to (X':={ X with latest:=X.latest+1 }) (oO.framed kv x X hk0 (aA w _) (by simp)) hn rfl hp
  obtain⟨f',a,n,s,r⟩:=this
  exact⟨f',a.congr rfl rfl rfl rfl (fun c hc=>by simp[kJ]) (fun c hc=>by simp[kJ]),n,s,r⟩)
 have HM:Hid (∀ c,c<60→(w.alloc (.cells (aZ S.wr S.tm).toArray 77)).cell? ⟨w.heap.size,c*4,none⟩=some (.bool (iX (S.wr c)))∧(w.alloc (.cells (aZ S.wr S.tm).toArray 77)).cell? ⟨w.heap.size,c*4+1,none⟩=some (.bool (gX (S.wr c)))∧(w.alloc (.cells (aZ S.wr S.tm).toArray 77)).cell? ⟨w.heap.size,c*4+2,none⟩=some (.int .i64 (rq (S.wr c)))):=af (fun c hc=>by
  have e:∀ i,(w.alloc (.cells (aZ S.wr S.tm).toArray 77)).cell? ⟨w.heap.size,i,none⟩=(aZ S.wr S.tm)[i]?:=fun i=>by rw[cell_of_row _ _ _ _ _ _ (heap_alloc_new w _)];simp
  rw[e,e,e]
  exact⟨(dY S.wr S.tm hc).1,(dY S.wr S.tm hc).2.1,(dY S.wr S.tm hc).2.2.1⟩)
 obtain⟨ca,hca⟩:∃ ca,ca=(aZ S.wr S.tm).toArray:=⟨_,rfl⟩
 rw[←hca] at HST HM ⊢
 have HHL:=af hl
 have HH:=af hH
 have HWI:=af hwi
 clear hca hk0 hb hn hl hH hwi
 obtain⟨lt,hlt0⟩:∃ lt,lt=X.latest:=⟨_,rfl⟩
 have HLT:=af hlt0
 rw[←hlt0] at c0 hlat0 hlat1 HST ⊢
 clear hlt0
 go_enter Tryz.func57,Tryz.ntmps57
 go_wp2_with fail
 generalize hw0:w.alloc (.cells ca 77)=w0 at HST HM
 have hHw0:w.heap.size<w0.heap.size:=by rw[←hw0];simp
 have HF0:Hid (Fr [] w w0):=af (by rw[←hw0];exact aA w _)
 clear hw0
 go_loopw [5] (fun t wr=>∃ k:Nat,k≤60∧t=.int .i64 k∧cO (aV x (kJ X S k)) f w0 wr) (fun t _=>60 - (intOf t).toNat)
 case atStart=>exact⟨0,by omega,rfl,HST.out⟩
 case round=>
  obtain⟨k,hk,rfl,hat⟩:=hrel
  have HATO:=af hat
  obtain⟨f1,a1,n1,s1,r1⟩:=hat
  have hH1:w.heap.size∉f1:=fun e=>by
   rcases s1 _ e with h|h
   ·exact HH.out h
   ·omega
  have l0:wr.cell? ⟨x,1955,none⟩=some (.int .i64 (lt+1)):=by
   obtain⟨kv1,hp1,_⟩:=a1
   rw[HLT.out]
   exact hp1.store.latest
  by_cases hlt:k<60
  ·obtain⟨m0,m1,m2⟩:=HM.out k hlt
   have d0:=bD r1 m0 HH.out
   have d1:=bD r1 m1 HH.out
   have d2:=bD r1 m2 HH.out
   clear m0 m1 m2
   cases hw:S.wr k with
   |none=>
    rw[hw] at d0
    have HN:=af (AT X S hw)
    simp only[iX,Option.isSome_none] at d0
    clear hw d1 d2 a1 s1 r1 n1 hH1
    go_wp2_with fail
    go_roundw
    case rel=>exact⟨k+1,by omega,by go_num,by rw[HN.out];exact HATO.out⟩
    case measure=>simp[intOf];omega
   |some v=>
    rw[hw] at d0 d1 d2
    have e1:gX (some v)=v.isSome:=by cases v <;> rfl
    have e2:rq (some v)=v.getD 0:=by cases v <;> rfl
    rw[e1] at d1
    rw[e2] at d2
    simp only[iX,Option.isSome_some] at d0
    have HS:=af (AY X S hw)
    have HADD:Hid (∀ W,Fr [] wr W→Calls Tryz.prog 86 #[.pointer (some ⟨x,1955+1+k*2,none⟩),.agg #[.int .i64 (lt+1),.bool v.isSome,.int .i64 (v.getD 0)]] W fun e w'=>e=.returned (.tuple #[])∧cO (aV x (kJ X S (k+1))) f1 W w'):=af (fun W hW=>by
     rw[HS.out,HLT.out]
     refine BT x (kJ X S k) f1 k (X.latest+1) v W hlt (aV.framed _ _ a1 hW (by simp)) n1 ?_
     have:(kJ X S k).hist k=X.hist k:=by simp[kJ]
     rw[this]
     exact HHL.out k hlt)
    obtain⟨vf,hvf⟩:∃ vf,vf=v.isSome:=⟨_,rfl⟩
    obtain⟨vv,hvv⟩:∃ vv,vv=v.getD 0:=⟨_,rfl⟩
    rw[←hvf] at d1 HADD
    rw[←hvv] at d2 HADD
    have HS1:=af s1
    have HR1:=af r1
    have HLAT:Hid (∀ W f2,aV x (kJ X S (k+1)) W f2→W.cell? ⟨x,1955,none⟩=some (.int .i64 (lt+1))):=af (fun W f2 hp=>by
     obtain⟨kv1,hp1,_⟩:=hp
     rw[HLT.out]
     exact hp1.store.latest)
    clear hw e1 e2 hvf hvv a1 s1 r1 n1
    have hk0':(0:Int)≤(k:Int):=by omega
    have hk1':(k:Int)<60:=by omega
    go_wp2_with fail
    go_region_held3 (fun W=>W.cell? ⟨x,1955,none⟩=some (.int .i64 (lt+1))∧W.cell? ⟨w.heap.size,k*4+1,none⟩=some (.bool vf)∧W.cell? ⟨w.heap.size,k*4+2,none⟩=some (.int .i64 vv)) (first|go_keep|(exact⟨j0,j1,j2⟩)) (first
     |(go_at_call 86
       refine (HADD.out _ (au (Fr.refl _ _))).mono ?_
       rintro e w2 ⟨rfl,hat2⟩
       have HAT2:=af hat2
       obtain⟨f2,b2,_,_,r2⟩:=hat2
       have j0:=HLAT.out _ _ b2
       have j1:=bD r2 (aC (au (Fr.refl _ _)) d1) hH1
       have j2:=bD r2 (aC (au (Fr.refl _ _)) d2) hH1
       clear r2 b2))
    go_wp2_with fail
    go_roundw
    case rel=>
     obtain⟨f2,b2,n2,s2,r2⟩:=HAT2.out.before (au (Fr.refl [] wr))
     refine⟨k+1,by omega,by go_num,f2,b2,n2,fun y hy=>?_,tG HR1.out r2 HS1.out⟩
     rcases s2 y hy with h|h
     ·exact HS1.out y h
     ·exact .inr (Nat.le_trans HR1.out.size h)
    case measure=>simp[intOf];omega
  ·have hk60:k=60:=by omega
   subst hk60
   clear a1 s1 r1 n1 hH1
   go_wp2_with fail
   go_ret
   refine⟨rfl,?_⟩
   obtain⟨f2,a2,n2,s2,r2⟩:=HATO.out.before HF0.out
   exact⟨f2,Dt a2,n2,s2,r2⟩
theorem zI {w:World}{b o:Nat}{X:ap}{kv:Nat→Value}(h:jo w b o X kv)(hR:oE w X kv){c:Nat}(hc:c<60):∃ a cp,w.cell? ⟨b,o+1+c*2+1,none⟩=some (.slice a (X.hist c).length cp):=by
 have h1:=hR c hc
 obtain⟨a,m,cp,e⟩:=an h1
 rw[e] at h1
 have em:=ar h1
 subst em
 exact⟨a,cp,by rw[←e];exact h.kept c hc⟩
theorem vE (b o:Nat)(X:ap)(kv:Nat→Value)(w:World)(h:jo w b o X kv)(hR:oE w X kv)(hm:keptN X 60≤9223372036854775807):
  Calls Tryz.prog 69 #[.pointer (some ⟨b,o,none⟩)] w fun e w'=>e=.returned (.int .i64 (keptN X 60:Nat))∧w'=w:=by
 have HK:Hid (∀ c,c<60→∃ a cp,w.cell? ⟨b,o+1+c*2+1,none⟩=some (.slice a (X.hist c).length cp)):=af (fun c hc=>zI h hR hc)
 have HM:Hid (∀ k,k≤60→keptN X k≤9223372036854775807):=af (fun k hk=>Nat.le_trans (kj X hk) hm)
 clear h hR hm
 go_enter Tryz.func69,Tryz.ntmps69
 go_wp2_with fail
 go_loop [3,4] (fun t i=>∃ k:Nat,k≤60∧i=.int .i64 k∧t=.int .i64 (keptN X k:Nat)) (fun _ i=>60 - (intOf i).toNat)
 case atStart=>exact⟨0,by omega,rfl,rfl⟩
 case round=>
  obtain⟨k,hk,rfl,rfl⟩:=hrel
  by_cases hlt:k<60
  ·obtain⟨a,cp,d0⟩:=HK.out k hlt
   have hle:=HM.out (k+1) (by omega)
   have HSU:Hid (keptN X (k+1)=keptN X k+(X.hist k).length):=af rfl
   rw[HSU.out] at hle
   obtain⟨m,hm⟩:∃ m,m=keptN X k:=⟨_,rfl⟩
   obtain⟨l,hl⟩:∃ l,l=(X.hist k).length:=⟨_,rfl⟩
   rw[←hm,←hl] at hle HSU
   rw[←hl] at d0
   rw[←hm]
   clear hm hl
   go_wp2
   go_round
   case rel=>exact⟨k+1,by omega,by go_num,by rw[HSU.out];go_num⟩
   case measure=>simp[intOf];omega
  ·have e:k=60:=by omega
   subst e
   go_wp2
   go_ret
   exact⟨rfl,rfl⟩
theorem sK (b o:Nat)(S:aJ)(w:World)(h:cJ w b o S):
  Calls Tryz.prog 55 #[.pointer (some ⟨b,o,none⟩)] w fun e w'=>e=.returned (.int .i64 (cw S 60:Nat))∧w'=w:=by
 have HM:=af h.made
 clear h
 go_enter Tryz.func55,Tryz.ntmps55
 go_wp2_with fail
 go_loop [3,4] (fun t i=>∃ k:Nat,k≤60∧i=.int .i64 k∧t=.int .i64 (cw S k:Nat)) (fun _ i=>60 - (intOf i).toNat)
 case atStart=>exact⟨0,by omega,rfl,rfl⟩
 case round=>
  obtain⟨k,hk,rfl,rfl⟩:=hrel
  have hle:=qi S k
  by_cases hlt:k<60
  ·have d0:=HM.out k hlt
   have HSU:Hid (cw S (k+1)=cw S k+(if iX (S.wr k) then 1 else 0)):=af rfl
   obtain⟨m,hm⟩:∃ m,m=cw S k:=⟨_,rfl⟩
   rw[←hm] at hle HSU
   rw[←hm]
   clear hm
   cases hw:iX (S.wr k) with
   |true=>
    rw[hw] at d0 HSU
    clear hw
    go_wp2
    go_round
    case rel=>exact⟨k+1,by omega,by go_num,by rw[HSU.out];go_num⟩
    case measure=>simp[intOf];omega
   |false=>
    rw[hw] at d0 HSU
    clear hw
    go_wp2
    go_round
    case rel=>exact⟨k+1,by omega,by go_num,by rw[HSU.out];rfl⟩
    case measure=>simp[intOf];omega
  ·have e:k=60:=by omega
   subst e
   go_wp2
   go_ret
   exact⟨rfl,rfl⟩
theorem Dg:(Tryz.prog.info? 77).map (·.size)=some 240:=by kernel_rfl
theorem DC {x k:Nat}(hk:k<8){X:ap}{w:World}{f:List Nat}(h:aV x X w f)(hn:f.Nodup):
  (storeCells ⟨x,3+k*244,none⟩ Tryz.zeroCells82.toList 0).run Tryz.prog w=.ok () (w.setCells x (3+k*244) Tryz.zeroCells82.toList)∧cO (aV x (X.setSes k .zero)) f w (w.setCells x (3+k*244) Tryz.zeroCells82.toList):=by
 obtain⟨kv,hk0⟩:=h
 have hP:=hk0.1
 have hlay:=hP.lay hk .zero tv
 rw[←iQ] at hlay
 exact⟨gd (P:=Tryz.prog) w x (3+k*244) Tryz.zeroCells82.toList (by rw[iQ,b6];exact hP.there hk) (by rw[iQ];exact km _),gN.to (X':=X.setSes k .zero) hk0 hn rfl hlay⟩
def s0:ByteArray:=⟨#[53,58,97,120,121,62,43,98,120,121,59]⟩
theorem xr (X:ap):(a8 X).2.hist=X.hist:=by unfold a8;cases ba X 0 <;> rfl
theorem zM (X:ap)(n:Int)(s:ByteArray):(cq X n s).2.hist=X.hist:=by
 unfold cq
 cases aM X n with
 |none=>rfl
 |some k=>cases eR s <;> rfl
theorem vw (X:ap)(n:Int)(s:ByteArray):(aX X n s).2.hist=X.hist:=by
 unfold aX
 cases aM X n with
 |none=>rfl
 |some k=>cases eE s <;> rfl
theorem vS (X:ap)(n:Int):(aY X n).2.hist=X.hist:=by
 unfold aY
 cases aM X n <;> rfl
theorem Dw (x:Nat)(X:ap)(f:List Nat)(w:World)(h:aV x X w f)(hn:f.Nodup)(ho:0≤X.opened∧X.opened<9223372036854775807):
  Calls Tryz.prog 19 #[.pointer (some ⟨x,0,none⟩)] w fun e w'=>e=.returned (.tuple #[.int .i64 (a8 X).1.1,.int .i64 (a8 X).1.2])∧cO (aV x (a8 X).2) f w w':=by
 obtain⟨kv,hk⟩:=h
 refine (Bx x X kv w hk.1 ho).mono ?_
 rintro e w' ⟨rfl,hp⟩
 exact⟨rfl,hp.to hk hn (xr X)⟩
theorem EY (x:Nat)(X:ap)(f:List Nat)(n:Int)(s:ByteArray)(w:World)(h:aV x X w f)(hn:f.Nodup)(hs63:s.size<9223372036854775808)(hm:∀ k,aM X n=some k→(X.ses k).more):
  Calls Tryz.prog 21 #[.pointer (some ⟨x,0,none⟩),.int .i64 n,.string s] w fun e w'=>e=.returned (.int .i64 (cq X n s).1)∧cO (aV x (cq X n s).2) f w w':=by
 obtain⟨kv,hk⟩:=h
 refine (DI x X kv n s w hk.1 hs63 hm).mono ?_
 rintro e w' ⟨rfl,hp⟩
 exact⟨rfl,hp.to hk hn (zM X n s)⟩
theorem A5 (x:Nat)(X:ap)(f:List Nat)(n:Int)(s:ByteArray)(w:World)(h:aV x X w f)(hn:f.Nodup)(hs63:s.size<9223372036854775808)(hm:∀ k,aM X n=some k→(X.ses k).more):
  Calls Tryz.prog 23 #[.pointer (some ⟨x,0,none⟩),.int .i64 n,.string s] w fun e w'=>e=.returned (.int .i64 (aX X n s).1)∧cO (aV x (aX X n s).2) f w w':=by
 obtain⟨kv,hk⟩:=h
 refine (wP x X kv n s w hk.1 hs63 hm).mono ?_
 rintro e w' ⟨rfl,hp⟩
 exact⟨rfl,hp.to hk hn (vw X n s)⟩
theorem zY (x:Nat)(X:ap)(f:List Nat)(n:Int)(w:World)(h:aV x X w f)(hn:f.Nodup):
  Calls Tryz.prog 27 #[.pointer (some ⟨x,0,none⟩),.int .i64 n] w fun e w'=>e=.returned (.int .i64 (aY X n).1)∧cO (aV x (aY X n).2) f w w':=by
 obtain⟨kv,hk⟩:=h
 refine (xV x X kv n w hk.1).mono ?_
 rintro e w' ⟨rfl,hp⟩
 exact⟨rfl,hp.to hk hn (vS X n)⟩
theorem DR (x:Nat)(X:ap)(f:List Nat)(n:Int)(w:World)(h:aV x X w f)(hl:∀ c,c<60→(X.hist c).length≤9223372036854775807)(hd:∀ k,aM X n=some k→ER (jl X k)):
  Calls Tryz.prog 25 #[.pointer (some ⟨x,0,none⟩),.int .i64 n] w fun e w'=>e=.returned (.tuple #[.string (fM X n).1,.int .i64 (fM X n).2])∧Fr [] w w':=by
 obtain⟨kv,hk⟩:=h
 refine (AR x X kv n w hk.1 hk.rows hl hd).mono ?_
 rintro e w' ⟨rfl,hg⟩
 exact⟨rfl,aK hg⟩
def Gj:ByteArray:=⟨#[97,51,55]⟩
def W1 (r:Ej):ap:=(a8 (X0 r)).2
def W2 (r:Ej):ap:=(cq (W1 r) 1 Gj).2
def W3 (r:Ej):ap:=(jK (W2 r) 1).2
end Go.Proofs.YthlhbjnkohinmaaGreat
