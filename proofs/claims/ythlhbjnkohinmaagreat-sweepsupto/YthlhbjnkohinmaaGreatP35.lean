import Derived.Test.YthlhbjnkohinmaaGreatP34
import Derived.Test.YthlhbjnkohinmaaGreatP15
import Derived.Test.YthlhbjnkohinmaaGreatP32
import Derived.Test.YthlhbjnkohinmaaGreatP27
namespace Go.Proofs.YthlhbjnkohinmaaGreat
set_option maxRecDepth 100000
set_option maxHeartbeats 8000000
open Go.RowKit
def pT (l:List In)(k j:Nat):ByteArray:=ep (l.take k)++strOfNums [48+(((l.getD k (In.start 0)).rule:Nat):Int)]++bA ((l.getD k (In.start 0)).facts.take j)
theorem Do (l:List In)(k:Nat)(hk:k<l.length):pT l k 0=ep (l.take k)++strOfNums [48+(l[k].rule:Int)]:=by
 have e:l.getD k (In.start 0)=l[k]:=by simp[List.getD,List.getElem?_eq_getElem hk]
 unfold pT
 rw[e]
 simp[bA,ce]
theorem CJ (l:List In)(k:Nat)(hk:k<l.length)(j:Nat)(hj:j<l[k].facts.length):pT l k (j+1)=pT l k j++cq l[k].facts[j].1 l[k].facts[j].2.1:=by
 have e:l.getD k (In.start 0)=l[k]:=by simp[List.getD,List.getElem?_eq_getElem hk]
 unfold pT
 rw[e,List.take_succ_eq_append_getElem hj]
 unfold bA
 rw[List.map_append]
 show _++ce (_++[cq l[k].facts[j].1 l[k].facts[j].2.1])=_
 rw[gZ,ByteArray.append_assoc,ByteArray.append_assoc,ByteArray.append_assoc]
theorem Em (l:List In)(k:Nat)(hk:k<l.length):pT l k l[k].facts.length++⟨#[59]⟩=ep (l.take (k+1)):=by
 have e:l.getD k (In.start 0)=l[k]:=by simp[List.getD,List.getElem?_eq_getElem hk]
 rw[p8 l k hk]
 unfold pT fQ
 rw[e,List.take_length]
 simp only[ByteArray.append_assoc]
theorem C4 (l:List In)(k:Nat)(hk:k<l.length)(h:∀ i∈l,i.facts.length≤3)(hl:l.length≤2160000)(j:Nat):(pT l k j).size≤700000000:=by
 have e:l.getD k (In.start 0)=l[k]:=by simp[List.getD,List.getElem?_eq_getElem hk]
 have h1:=mq (l.take k) (fun i hi=>by have:=h i (List.mem_of_mem_take hi);omega)
 have h2:=List.length_take_le' k l
 unfold pT
 rw[e,ByteArray.size_append,ByteArray.size_append,fA]
 have h3:(strOfNums [48+(l[k].rule:Int)]).size=1:=rfl
 have h4:=List.length_take_le' j l[k].facts
 have h5:=h l[k] (List.getElem_mem hk)
 omega
theorem xj (wt:Nat→Int)(l:List In)(a0:Option Addr)(c0:Nat)(w:World)(hl:l.length≤2160000)(hok:∀ i∈l,i.facts.length≤3∧i.rule≤9∧∀ q∈i.facts,q.1<60∧0≤q.2.1∧q.2.1≤9)
  (hrow:0<l.length→∃ g o,a0=some ⟨g,o,none⟩∧g<w.heap.size∧w.rangeAt g o (cA wt l)) :
  Calls Tryz.prog 62 #[.slice a0 l.length c0] w fun e w'=>e=.returned (.string (ep l))∧w.grownBy w' none:=by
 obtain⟨i0,hi0,hz0,hz1,hz2⟩:=info_parts Tryz.infoB
 have HROW:=af hrow
 have HOK:=af hok
 have HTZ:Hid (∀ k,(ep (l.take k)).size≤700000000):=af (fun k=>by
  have h1:=mq (l.take k) (fun i hi=>by have:=(hok i (List.mem_of_mem_take hi)).1;omega)
  have h2:=List.length_take_le' k l
  omega)
 have HTJ:Hid (∀ k (hk:k<l.length) j,(pT l k j).size≤700000000):=af (fun k hk j=>C4 l k hk (fun i hi=>(hok i hi).1) hl j)
 clear hrow hok
 go_enter Tryz.func62,Tryz.ntmps62
 go_wp2_with fail
 go_loopw [3,10] (fun t i wr=>∃ k:Nat,k≤l.length∧i=.int .i64 k∧wr.ownsRow w.heap.size 5 1 t (ep (l.take k)).size (Lib.strCells (ep (l.take k)))∧w.grownBy wr none) (fun _ i _=>l.length - (intOf i).toNat)
 case atStart=>exact⟨0,by omega,rfl,by simpa [ep,ce,Lib.strCells] using World.ownsRow_nil w w.heap.size 5 1,ag _ _⟩
 case round=>
  obtain⟨k,hk,rfl,hown,hg⟩:=hrel
  have HG:=af hg
  have HOW:=af hown
  have hsz:=hg.size
  by_cases hlt:k<l.length
  ·obtain⟨g,o,rfl,hgb,hrg⟩:=HROW.out (by omega)
   obtain⟨hf3,hr9,hq⟩:=HOK.out l[k] (List.getElem_mem hlt)
   have HQ:=af hq
   obtain⟨L,hL⟩:∃ L,L=aG (wt l[k].rule) l[k]:=⟨_,rfl⟩
   have HRG:Hid (wr.rangeAt g (o+k*24) L):=af (by rw[hL];exact df (sW wt hrg hlt) hg)
   have hLl:L.length=24:=by rw[hL];rfl
   have HIL:Hid ((Tryz.prog.info? 176).map (·.size)=some L.length):=af (by rw[hLl];exact bC)
   have HONA:Hid (L.toArray.all (·.oneCell')=true):=af (all_oneCell_toArray (by rw[hL];exact cn _ _))
   have HBN:Hid ((wr.alloc (.cells L.toArray 176)).heap[wr.heap.size]?=some (.cells L.toArray 176 (0,0))):=af (heap_alloc_new wr _)
   obtain⟨rl,hrl⟩:∃ rl,rl=l[k].rule:=⟨_,rfl⟩
   obtain⟨nf,hnf⟩:∃ nf,nf=l[k].facts.length:=⟨_,rfl⟩
   have hrb:rl≤9:=by omega
   have hnb:nf≤3:=by omega
   have c0':(wr.alloc (.cells L.toArray 176)).cell? ⟨wr.heap.size,0,none⟩=some (.int .i64 rl):=ba HBN.out (by rw[hL,hrl];rfl)
   have HL3:Hid (L[3]?=some (.int .i64 nf)):=af (by rw[hL,hnf];rfl)
   have HLQ:Hid (∀ j (hj:j<l[k].facts.length),∀ x v,(n9 l[k].facts[j])[x]?=some v→L[4+j*4+x]?=some v):=af (fun j hj x v hv=>by
    have ef:uJ l[k].facts j=l[k].facts[j]:=by simp[uJ,List.getD,List.getElem?_eq_getElem hj]
    have hx:=(List.getElem?_eq_some_iff.1 hv).1
    rw[pA] at hx
    rw[←ef] at hv
    rw[hL,←hv]
    match j,(show j<3 by omega),x,hx with
    |0,_,0,_=>rfl
    |0,_,1,_=>rfl
    |0,_,2,_=>rfl
    |0,_,3,_=>rfl
    |1,_,0,_=>rfl
    |1,_,1,_=>rfl
    |1,_,2,_=>rfl
    |1,_,3,_=>rfl
    |2,_,0,_=>rfl
    |2,_,1,_=>rfl
    |2,_,2,_=>rfl
    |2,_,3,_=>rfl)
   obtain⟨ta,tm,tc,rfl⟩:=an hown
   have em:=au hown
   subst em
   have hts:=HTZ.out k
   have HZ:=af (Do l k hlt)
   have HSU:=af (CJ l k hlt)
   have HAL:=af (Em l k hlt)
   have HTK:=af (HTJ.out k hlt)
   have hne:g≠wr.heap.size:=by omega
   have hgl:g<wr.heap.size:=by omega
   rw[←hrl] at HZ
   rw[←hnf] at HAL
   have HS1:Hid (∀ (w3:World) (v':Value),w3.ownsRow w.heap.size 5 1 v' ((ep (l.take k)).size+1) (Lib.strCells (ep (l.take k))++[.int .u8 (48+(rl:Int))])→w3.ownsRow w.heap.size 5 1 v' (pT l k 0).size (Lib.strCells (pT l k 0))):=af (fun w3 v' h=>by
    rw[HZ.out,j8,tw (by omega) (by omega),ByteArray.size_append]
    exact h)
   have how1:=aq HOW.out (ab (ab (ag wr none) (.cells L.toArray 176)) (.cells #[.int .u8 (48+(rl:Int))] 5)) (fun g hg=>by cases hg)
   have HNW:Hid (∀ (j:Nat) (u:Value),([.int .u8 (48+(rl:Int))]:List Value)[j]?=some u→((wr.alloc (.cells L.toArray 176)).alloc (.cells #[.int .u8 (48+(rl:Int))] 5)).cell? ((⟨wr.heap.size+1,0,none⟩:Addr).add j)=some u):=af (fun j u hj=>by
    have:=bj (w:=wr.alloc (.cells L.toArray 176)) (t:=5) hj
    rw[show (wr.alloc (.cells L.toArray 176)).heap.size=wr.heap.size+1 by simp] at this
    exact this)
   have HLT:=af (fun g hg=>(HOW.out.lt g hg).1)
   have HOB:Hid (∀ g,(Value.slice ta (ep (l.take k)).size tc).ownBlock=some g→g<wr.heap.size):=af (fun g hg=>(HOW.out.lt g hg).2)
   obtain⟨t0,ht0⟩:∃ t0,t0=ep (l.take k):=⟨_,rfl⟩
   rw[←ht0] at how1 HLT HOB HS1 hts ⊢
   have w48:(48:Int)+(rl:Int)≤255:=by omega
   have HNF:=af hnf
   clear ht0 hL hown hg hq hrl hnf hrg HZ
   go_wp2_with (first
    |(refine wpList_load_mid rfl 176 (.tmp 12) rfl g (o+k*24) rfl L _ HRG.out Tryz.underlying176 rfl HIL.out ?_)
    |(refine az rfl 176 (.tmp 5) (.tmp 13) rfl _ L rfl rfl hLl.symm HIL.out HONA.out ?_)
    |(at_builtin;refine wpList_append_own _ rfl (.tmp 14) (.tmp 19) 160 rfl (w.heap.size) 5 i0 (.int .u8 0) 1 1 Tryz.underlying160 hi0 hz0 hz1 hz2 rfl (by decide) _ _ _ rfl how1 _ 1 1 [.int .u8 (48+(rl:Int))] rfl rfl HNW.out (by simp[Value.oneCell']) (by unfold maxLen;omega) (by omega) (by simp;omega) ?_))
   intro v1 w3 hown3 hg3 _
   have HO3:=af (HS1.out _ _ hown3)
   have HG3:Hid (w.grownBy w3 none):=af (aL (ae HG.out (ab (ab (ag wr none) _) _)) hg3 HLT.out)
   have HB3:Hid (w3.heap[wr.heap.size]?=some (.cells L.toArray 176 (0,0))):=af (by
    have h4:=(Below.heap_alloc (wr.alloc (.cells L.toArray 176)) (.cells #[.int .u8 (48+(rl:Int))] 5) _ (lt_of_block HBN.out)).trans HBN.out
    exact (hg3.block _ (lt_of_block h4) (fun e=>by
     have:=HOB.out _ e.symm
     omega)).trans h4)
   clear hown3 hg3 how1 HS1 c0'
   go_wp2_with fail
   go_loopw [3,6] (fun t i wr2=>∃ j:Nat,j≤nf∧i=.int .i64 j∧wr2.ownsRow w.heap.size 5 1 t (pT l k j).size (Lib.strCells (pT l k j))∧w.grownBy wr2 none∧wr2.heap[wr.heap.size]?=some (.cells L.toArray 176 (0,0))) (fun _ i _=>nf - (intOf i).toNat)
   case atStart=>exact⟨0,by omega,rfl,HO3.out,HG3.out,HB3.out⟩
   case round=>
    rename World=>wr2
    obtain⟨j,hj,rfl,hown,hg2,hbl⟩:=hrel
    have HG2:=af hg2
    have HOW2:=af hown
    have HBL:=af hbl
    have hsz2:=hg2.size
    have hbs:=lt_of_block hbl
    have d3:wr2.cell? ⟨wr.heap.size,3,none⟩=some (.int .i64 nf):=ba hbl HL3.out
    obtain⟨ua,um,uc,rfl⟩:=an hown
    have em2:=au hown
    subst em2
    have hts2:=HTK.out j
    have HLT2:=af (fun g hg=>(HOW2.out.lt g hg).1)
    have HNB:Hid (∀ g,(Value.slice ua (pT l k j).size uc).ownBlock=some g→g≠wr.heap.size):=af (fun g hg e=>by
     subst e
     exact aU HOW2.out HBL.out (by decide) hg)
    by_cases hltj:j<nf
    ·have hjf:j<l[k].facts.length:=by have:=HNF.out;omega
     obtain⟨Q,hQ⟩:∃ Q,Q=n9 l[k].facts[j]:=⟨_,rfl⟩
     have hQl:Q.length=4:=by rw[hQ];rfl
     have HIQ:Hid ((Tryz.prog.info? 114).map (·.size)=some Q.length):=af (by rw[hQl];exact jE)
     have HRQ:Hid (wr2.rangeAt wr.heap.size (4+j*4) Q):=af (bV hbl (fun x v hv=>by rw[hQ] at hv;exact HLQ.out j hjf x v hv))
     obtain⟨q1,q2,q3⟩:=HQ.out l[k].facts[j] (List.getElem_mem hjf)
     have HTX:Hid (∀ W,Calls Tryz.prog 50 #[.agg Q.toArray] W fun e w'=>e=.returned (.string (cq l[k].facts[j].1 l[k].facts[j].2.1))∧W.grownBy w' none):=af (fun W=>by
      rw[hQ]
      exact nz l[k].facts[j].1 l[k].facts[j].2.1 l[k].facts[j].2.2 W q1 q2 q3)
     have HSJ:=af (HSU.out j hjf)
     have hfz:=kr l[k].facts[j].1 l[k].facts[j].2.1
     obtain⟨ft,hft⟩:∃ ft,ft=cq l[k].facts[j].1 l[k].facts[j].2.1:=⟨_,rfl⟩
     rw[←hft] at HTX HSJ hfz
     have HS2:Hid (∀ (w4:World) (v':Value),w4.ownsRow w.heap.size 5 1 v' ((pT l k j).size+3) (Lib.strCells (pT l k j)++Lib.strCells ft)→w4.ownsRow w.heap.size 5 1 v' (pT l k (j+1)).size (Lib.strCells (pT l k (j+1)))):=af (fun w4 v' h=>by
      rw[HSJ.out,j8,ByteArray.size_append,hfz]
      exact h)
     obtain⟨t1,ht1⟩:∃ t1,t1=pT l k j:=⟨_,rfl⟩
     rw[←ht1] at HOW2 HLT2 HNB HS2 hts2 ⊢
     have j3:(j:Int)<3:=by omega
     have j0:(0:Int)≤(j:Int):=by omega
     clear ht1 hft hQ hown hg2 hbl q1 q2 q3 HSJ HLQ HSU
     go_wp2_with (first
      |(refine wpList_load_mid rfl 114 (.tmp 33) rfl wr.heap.size (4+j*4) rfl Q _ HRQ.out Tryz.underlying114 rfl HIQ.out ?_))
     go_at_call 50
     refine (HTX.out _).mono ?_
     rintro e w4 ⟨rfl,hg4⟩
     have HG4:=af hg4
     have hs4:=hg4.size
     have how4:=aq HOW2.out hg4 (fun g hg=>by cases hg)
     clear hg4
     go_wp2_with (first
      |(at_builtin;refine Lib.wpList_append_own_string _ rfl (.tmp 36) (.tmp 37) 160 9 rfl (w.heap.size) 5 i0 Tryz.underlying160 Tryz.underlying9 hi0 hz0 hz1 hz2 _ _ _ rfl how4 ft rfl (by unfold maxLen;omega) (by omega) (by omega) ?_))
     intro v5 w5 hown5 hg5 _
     have HO5:=af (HS2.out _ _ hown5)
     have HG5:Hid (w.grownBy w5 none):=af (aL (ae HG2.out HG4.out) hg5 HLT2.out)
     have HB5:Hid (w5.heap[wr.heap.size]?=some (.cells L.toArray 176 (0,0))):=af (by
      have h4:=(HG4.out.block _ hbs (by simp)).trans HBL.out
      exact (hg5.block _ (lt_of_block h4) (fun e=>HNB.out _ e.symm rfl)).trans h4)
     clear hown5 hg5 how4
     go_wp2_with fail
     go_roundw
     case rel=>exact⟨j+1,by omega,by go_num,HO5.out,HG5.out,HB5.out⟩
     case measure=>simp[intOf];omega
    ·have ej:j=nf:=by omega
     subst ej
     have HS2:Hid (∀ (w4:World) (v':Value),w4.ownsRow w.heap.size 5 1 v' ((pT l k j).size+1) (Lib.strCells (pT l k j)++[.int .u8 59])→w4.ownsRow w.heap.size 5 1 v' (ep (l.take (k+1))).size (Lib.strCells (ep (l.take (k+1))))):=af (fun w4 v' h=>by
      rw[←HAL.out,j8,rq,ByteArray.size_append]
      exact h)
     have how4:=aq HOW2.out (ab (ag wr2 none) (.cells #[.int .u8 59] 5)) (fun g hg=>by cases hg)
     obtain⟨t1,ht1⟩:∃ t1,t1=pT l k j:=⟨_,rfl⟩
     rw[←ht1] at HOW2 HLT2 HNB HS2 hts2 how4 ⊢
     clear ht1 hown hg2 hbl HLQ HSU
     go_wp2_with (first
      |(at_builtin;refine wpList_append_own _ rfl (.tmp 39) (.tmp 40) 160 rfl (w.heap.size) 5 i0 (.int .u8 0) 1 1 Tryz.underlying160 hi0 hz0 hz1 hz2 rfl (by decide) _ _ _ rfl how4 _ 1 1 [.int .u8 59] rfl rfl (fun j u hj=>bj hj) (by simp[Value.oneCell']) (by unfold maxLen;omega) (by omega) (by simp;omega) ?_))
     intro v5 w5 hown5 hg5 _
     have HO5:=af (HS2.out _ _ hown5)
     have HG5:Hid (w.grownBy w5 none):=af (aL (ae HG2.out (ab (ag wr2 none) _)) hg5 HLT2.out)
     clear hown5 hg5 how4
     go_wp2_with fail
     go_roundw
     case rel=>exact⟨k+1,by omega,by go_num,HO5.out,HG5.out⟩
     case measure=>simp[intOf];omega
  ·have hkl:k=l.length:=by omega
   subst hkl
   rw[List.take_length] at HOW hown
   have hcv:=wB hown
   clear hg hown
   go_wp2_with fail
   go_ret
   exact⟨rfl,HG.out⟩
theorem tE (wt:Nat→Int)(l:List In)(v:Value)(B:Nat)(w:World)(hl:l.length≤2160000)(h:w.ownsRow B 176 24 v l.length (cA wt l)):
  Calls Tryz.prog 61 #[v] w fun e w'=>∃ a c,e=.returned (.slice a (bK (i8 wt) l).length c)∧(0<(bK (i8 wt) l).length→∃ g o,a=some ⟨g,o,none⟩∧g<w'.heap.size∧w'.rangeAt g o (cA wt (bK (i8 wt) l)))∧w.grownBy w' none:=by
 obtain⟨a,m,c,rfl⟩:=an h
 have em:=au h
 subst em
 rw[dP]
 by_cases hz:l.length=0
 ·rw[hz]
  refine (rx c a w).mono ?_
  rintro e w' ⟨rfl,rfl⟩
  exact⟨a,c,rfl,fun h=>by omega,ag _ _⟩
 ·have hcap:=tn h
  obtain⟨g,rfl,_,_,hgl,hcell⟩:=aC h (by omega)
  refine (sS wt l.length l g 0 c w rfl hl (by omega) hcap hgl (fun j v hv=>by rw[Nat.zero_add];exact hcell j v hv)).mono ?_
  rintro e w' ⟨g',o',c',rfl,_,h2,h3,h4⟩
  exact⟨_,c',rfl,fun _=>⟨g',o',rfl,h2,h3⟩,h4⟩
theorem pO {z:Int}{s:ByteArray}{F:List aw}(hF:rk F)(r:Nat)(L:List Nat):∀ i∈dy z s F r L,pK F i:=by
 have key:∀ (L:List Nat) (l:List In),(∀ i∈l,pK F i)→∀ i∈L.foldl (kJ z s F) l,pK F i:=by
  intro L
  induction L with
  |nil=>intro l h;exact h
  |cons p L ih=>intro l h;exact ih _ (C1 hF h p)
 unfold dy
 refine key L _ (fun i hi=>?_)
 simp at hi
 subst hi
 exact t6 F r
theorem uD {s:ByteArray}{F:List aw}(hF:rk F)(hFl:F.length≤60){R:List ay}(hR:∀ r∈R,mj s r)(hR9:R.length≤9):∀ i∈bz 0 s F R R.length,i.facts.length≤3∧i.rule≤9∧∀ q∈i.facts,q.1<60∧0≤q.2.1∧q.2.1≤9:=by
 intro i hi
 unfold bz at hi
 obtain⟨k,hk,hm⟩:=List.mem_flatMap.mp hi
 have hk':k<R.length:=by simpa using hk
 have e:R.getD k (0,[],[])=R[k]:=by simp[List.getD,List.getElem?_eq_getElem hk']
 rw[e] at hm
 obtain⟨h1,h2⟩:=iG hFl k (hR _ (List.getElem_mem hk')) i hm
 exact⟨h1,by omega,fun q hq=>hF q ((pO hF k _ i hm).facts q hq)⟩
theorem qY (x:Nat)(X:ap)(kv:Nat→Value)(n:Int)(k:Nat)(s:ByteArray)(R:List ay)(rv:Value)(B:Nat)(fd:In→Bool)(w:World)(h:ju w x X kv)(hR:oL w X kv)(hl:∀ c,c<60→(X.hist c).length≤9223372036854775807)(hf:aM X n=some k)(hd:Ec (jh X k))
  (hsrc:X.src.1.1=rv) (hrl:bP w B s rv R) (hRW:∀ r∈R,mj s r) (hR9:R.length≤9)
  (HHAS:Hid (∀ (j:Nat) (hj:j<R.length) (i:In) (W:World),i∈dy 0 s (fO X k) j R[j].2.1→w.grownBy W none→Calls Tryz.prog 89 #[.pointer (some ⟨x,3+k*244+243,none⟩),.agg (aG (eh s R j) i).toArray] W fun e w'=>e=.returned (.bool (fd i))∧W.grownBy w' none)) :
  Calls Tryz.prog 31 #[.pointer (some ⟨x,0,none⟩),.int .i64 n] w fun e w'=>e=.returned (.tuple #[.string (ep (bK (i8 (eh s R)) (jr s (fO X k) R fd R.length))),.int .i64 0])∧w.grownBy w' none:=by
 have HF:=af (eV x X n w h.ses)
 rw[hf] at HF
 have hk:k<8:=by
  unfold aM at hf
  split at hf
  ·cases hf
  ·exact (bx hf).1
 have HSE:=af (rV x X kv k w hk h hR hl)
 have hFO:rk (fO X k):=fun q hq=>⟨(jP hq).1,hd q.1 q.2.1 (jP hq).1 (jP hq).2⟩
 have hFl:=tG X k
 have hc0:=h.rules
 rw[hsrc] at hc0
 have hxl:=h.lt
 obtain⟨F,hF⟩:∃ F,F=fO X k:=⟨_,rfl⟩
 rw[←hF] at HSE HHAS hFO hFl ⊢
 obtain⟨ra,rm,rc,rfl⟩:∃ a m c,rv=.slice a m c:=by
  obtain⟨xs,h1,_⟩:=hrl
  exact an h1
 have erm:rm=R.length:=by
  obtain⟨xs,h1,_⟩:=hrl
  exact au h1
 subst erm
 have hrl':∀ W,w.grownBy W none→bP W B s (.slice ra R.length rc) R:=fun W hW=>by
  obtain⟨xs,h1,h2⟩:=hrl
  exact⟨xs,aq h1 hW (fun g hg=>by cases hg),fu hW (fun g hg=>by cases hg) R xs h2⟩
 have HOP:Hid (∀ (W:World) (fa:Option Addr) (fc B2:Nat),w.grownBy W none→W.ownsRow B2 114 4 (.slice fa F.length fc) F.length (bE F)→Calls Tryz.prog 60 #[.slice ra R.length rc,.slice fa F.length fc,.pointer (some ⟨x,3+k*244+243,none⟩)] W fun e w'=>∃ v,e=.returned v∧w'.ownsRow W.heap.size 176 24 v (jr s F R fd R.length).length (cA (eh s R) (jr s F R fd R.length))∧W.grownBy w' none):=af (fun W fa fc B2 hW hfr=>
  xD s F R ra fa rc fc B B2 x (3+k*244+243) fd W hRW hR9 (hrl' W hW) hFl hfr (af (fun j hj i W2 hi hW2=>HHAS.out j hj i W2 hi (ae hW hW2))))
 have hOl:(jr s F R fd R.length).length≤2160000:=by
  have h1:=kV hFl hRW R.length (Nat.le_refl _)
  have h2:=List.length_filter_le (fun i=>!fd i) (bz 0 s F R R.length)
  unfold jr
  omega
 have hOk:∀ i∈jr s F R fd R.length,i.facts.length≤3∧i.rule≤9∧∀ q∈i.facts,q.1<60∧0≤q.2.1∧q.2.1≤9:=fun i hi=>uD hFO hFl hRW hR9 i (List.mem_filter.mp hi).1
 obtain⟨O,hO⟩:∃ O,O=jr s F R fd R.length:=⟨_,rfl⟩
 rw[←hO] at HOP hOl hOk ⊢
 have HOR:=af (fun v B W=>tE (eh s R) O v B W hOl)
 obtain⟨M,hM⟩:∃ M,M=bK (i8 (eh s R)) O:=⟨_,rfl⟩
 have HWR:Hid (∀ (a:Option Addr) (c:Nat) (W:World),(0<M.length→∃ g o,a=some ⟨g,o,none⟩∧g<W.heap.size∧W.rangeAt g o (cA (eh s R) M))→Calls Tryz.prog 62 #[.slice a M.length c] W fun e w'=>e=.returned (.string (ep M))∧W.grownBy w' none):=af (fun a c W hr=>by
  refine xj (eh s R) M a c W (by rw[hM,dP];exact hOl) (fun i hi=>hOk i ?_) hr
  rw[hM] at hi
  exact lk.mp hi)
 rw[←hM] at HOR ⊢
 have HC0:=af hc0
 clear h hR hl hf hd hsrc hrl hrl' hRW hF hO hM hFO hOk hc0 HHAS
 go_enter Tryz.func31,Tryz.ntmps31
 go_wp2_with fail
 go_at_call 41
 refine HF.out.mono ?_
 rintro e w' ⟨rfl,rfl⟩
 simp only[dk]
 go_wp2_with fail
 go_at_call 49
 refine HSE.out.mono ?_
 rintro e w1 ⟨v,rfl,hown,hg1⟩
 obtain⟨a,m,c,rfl⟩:=an hown
 have em:=au hown
 subst em
 have HG1:=af hg1
 have HOW:=af hown
 have hc1:=am hg1 HC0.out
 clear HSE hg1 hown HF
 go_wp2_with fail
 go_region_held3 (fun W=>W.cell? ⟨x,0,none⟩=some (.slice ra R.length rc)) (first|go_keep|(exact am hg2 (by assumption))) (first
  |(go_at_call 60
    refine (HOP.out _ _ _ _ (al HG1.out 1) (aq HOW.out (al (ag w1 none) 1) (fun g hg=>by cases hg))).mono ?_
    rintro e w2 ⟨v2,rfl,ho2,hg2⟩
    have HO2:=af ho2
    clear ho2))
 have HG2:Hid (w'.grownBy w2 none):=af (ae HG1.out (cD (n:=1) hg2))
 clear hg2
 go_wp2_with fail
 go_at_call 61
 refine (HOR.out _ _ _ HO2.out).mono ?_
 rintro e w3 ⟨a3,c3,rfl,hr3,hg3⟩
 have HR3:=af hr3
 have HG3:=af hg3
 clear hr3 hg3
 go_wp2_with fail
 go_at_call 62
 refine (HWR.out _ _ _ HR3.out).mono ?_
 rintro e w4 ⟨rfl,hg4⟩
 have HG4:=af hg4
 clear hg4
 go_wp2_with fail
 go_ret2
 exact⟨rfl,ae HG2.out (ae HG3.out HG4.out)⟩
theorem qZ (x:Nat)(X:ap)(kv:Nat→Value)(n:Int)(w:World)(h:ju w x X kv)(hf:aM X n=none):
  Calls Tryz.prog 31 #[.pointer (some ⟨x,0,none⟩),.int .i64 n] w fun e w'=>e=.returned (.tuple #[.string ByteArray.empty,.int .i64 6])∧w.grownBy w' none:=by
 have HF:=af (eV x X n w h.ses)
 rw[hf] at HF
 clear h hf
 go_enter Tryz.func31,Tryz.ntmps31
 go_wp2_with fail
 go_at_call 41
 refine HF.out.mono ?_
 rintro e w' ⟨rfl,rfl⟩
 simp only[dk]
 go_wp2
 go_ret2
 exact⟨rfl,ag _ _⟩
def ja (n sn t:Int):Int:=if t=0 then -n - 2 else if t≤sn then t - n - 1 else t - sn
theorem pf {n sn t u:Int}(hs:0≤sn)(hn:sn≤n)(ht:0≤t)(h:t<u):ja n sn t<ja n sn u:=by
 unfold ja
 split <;> split <;> (try split) <;> (try split) <;> omega
theorem B7 {n sn t u:Int}(hs:0≤sn)(hn:sn≤n)(ht:0≤t)(hu:0≤u):(if ja n sn u>ja n sn t then ja n sn u else ja n sn t)=ja n sn (if u>t then u else t):=by
 by_cases h:t<u
 ·rw[if_pos (pf hs hn ht h),if_pos h]
 ·rw[if_neg h,if_neg]
  by_cases e:u=t
  ·subst e;omega
  ·have:=pf hs hn hu (show u<t by omega)
   omega
theorem CK {X:ap}{E:bm}{L:List (Nat×br)}(h:ic X E L){q:Nat×br}(hq:q∈L){p:aw}(hp:p∈fO X q.1):0<p.2.2∧(dq E.com q.2 (ax p.1)).2=ja E.com.length q.2.snap p.2.2:=by
 have hs:=h.ses q hq
 have hsn:=h.snap q hq
 unfold fO di at hp
 obtain⟨c,hc,hm⟩:=List.mem_filterMap.mp hp
 have hc60:c<60:=by simpa using hc
 cases hst:cK (X.ses q.1) (fun c=>aN (X.hist c) (X.ses q.1).snap) c with
 |none=>rw[hst] at hm;cases hm
 |some r=>
  rw[hst] at hm
  simp only[Option.map_some,Option.some.injEq] at hm
  subst hm
  simp only[]
  unfold cK at hst
  cases hl:bc (ax c) q.2.wr with
  |some k=>
   have ht:=hs.tm c hc60 k hl
   have hw:(X.ses q.1).wr c=bQ q.2.wr (ax c):=hs.wr c hc60
   have hsome:((X.ses q.1).wr c).isSome=true:=by
    rw[hw]
    unfold bQ
    rw[hl]
    rfl
   obtain⟨v,hv⟩:=Option.isSome_iff_exists.mp hsome
   rw[hv] at hst
   simp only at hst
   cases v with
   |none=>cases hst
   |some y=>
    simp only[Option.map_some,Option.some.injEq] at hst
    rw[←hst]
    simp only[]
    rw[ht]
    refine⟨by omega,?_⟩
    unfold dq ja
    rw[hl]
    simp only[]
    rw[if_neg (by omega),if_neg (by omega)]
    omega
  |none=>
   have hw:(X.ses q.1).wr c=bQ q.2.wr (ax c):=hs.wr c hc60
   have hnone:(X.ses q.1).wr c=none:=by
    rw[hw]
    unfold bQ
    rw[hl]
    rfl
   rw[hnone] at hst
   simp only at hst
   have e1:(X.ses q.1).snap=(q.2.snap.toNat:Int):=by rw[hs.snap];omega
   have hle:q.2.snap.toNat≤E.com.length:=by omega
   have h2:=h.hist c hc60 q.2.snap.toNat hle
   have h1:=h.histS c hc60 q.2.snap.toNat hle
   rw[←gp,←e1] at h2
   rw[←e1] at h1
   cases hv2:(aN (X.hist c) (X.ses q.1).snap).2 with
   |none=>rw[hv2] at hst;cases hst
   |some y=>
    rw[hv2] at hst h2
    simp only[Option.map_some,Option.some.injEq] at hst
    rw[←hst]
    simp only[]
    rw[h1]
    have hb:=nM E.com (ax c) q.2.snap.toNat
    have hpos:(dK E.com (ax c) q.2.snap.toNat).2≠0:=by
     intro e
     have hz:∀ t,(dK E.com (ax c) t).2=0→(dK E.com (ax c) t).1=-1:=by
      intro t
      induction t with
      |zero=>intro _;rfl
      |succ t ih=>
       unfold dK
       split
       ·intro h3;simp only[] at h3;omega
       ·exact ih
     rw[hz _ e] at h2
     simp[lH] at h2
    refine⟨by omega,?_⟩
    unfold dq ja
    rw[hl]
    simp only[]
    rw[if_neg hpos,if_pos (by omega)]
theorem yZ {X:ap}{E:bm}{L:List (Nat×br)}(h:ic X E L){q:Nat×br}(hq:q∈L){l:List aw}(hl:∀ p∈l,p∈fO X q.1):0≤b8 l∧gT E.com q.2 l=ja E.com.length q.2.snap (b8 l):=by
 have hsn:=h.snap q hq
 have key:∀ (l:List aw) (m:Int),0≤m→(∀ p∈l,p∈fO X q.1)→0≤l.foldl (fun m q=>if q.2.2>m then q.2.2 else m) m∧l.foldl (fun n p=>if (dq E.com q.2 (ax p.1)).2>n then (dq E.com q.2 (ax p.1)).2 else n) (ja E.com.length q.2.snap m)=ja E.com.length q.2.snap (l.foldl (fun m q=>if q.2.2>m then q.2.2 else m) m):=by
  intro l
  induction l with
  |nil=>intro m hm _;exact⟨hm,rfl⟩
  |cons p l ih=>
   intro m hm hl
   obtain⟨h1,h2⟩:=CK h hq (hl p (by simp))
   rw[List.foldl_cons,List.foldl_cons,h2,B7 hsn.1 hsn.2 hm (by omega)]
   refine ih _ ?_ (fun r hr=>hl r (by simp[hr]))
   split <;> omega
 have:=key l 0 (by omega) hl
 exact this
theorem wJ {n sn:Int}(hs:0≤sn)(hn:sn≤n){ta tb:Int}(ha:0≤ta)(hb:0≤tb)(ua ub:Int)(ra rb:Nat)(lt:Bool)(hlt:(ra≠rb→¬ra<rb)∧(ra=rb→lt=false)):
  j6 ua ub (ja n sn ta) (ja n sn tb) ra rb lt=Cf ua ta ub tb:=by
 unfold j6 Cf
 by_cases hu:ua≠ub
 ·rw[if_pos hu,if_pos hu]
 ·rw[if_neg hu,if_neg hu]
  by_cases ht:ta=tb
  ·subst ht
   rw[if_neg (by simp)]
   by_cases hr:ra=rb
   ·rw[if_neg (by simpa using hr),hlt.2 hr]
    simp
   ·rw[if_pos hr]
    have:=hlt.1 hr
    simp[this]
  ·rcases Int.lt_or_gt_of_ne ht with h|h
   ·have:=pf hs hn ha h
    rw[if_pos (by omega)]
    have e1:¬ja n sn ta>ja n sn tb:=by omega
    have e2:¬ta>tb:=by omega
    simp[e1,e2]
   ·have:=pf hs hn hb h
    rw[if_pos (by omega)]
    have e1:ja n sn ta>ja n sn tb:=by omega
    have e2:ta>tb:=by omega
    simp[e1,e2]
end Go.Proofs.YthlhbjnkohinmaaGreat
