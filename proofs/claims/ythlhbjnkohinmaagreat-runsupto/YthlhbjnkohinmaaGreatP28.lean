import Derived.Test.YthlhbjnkohinmaaGreatP27
namespace Go.Proofs.YthlhbjnkohinmaaGreat
set_option maxRecDepth 100000
set_option maxHeartbeats 8000000
open Go.RowKit
def qj (l:List In) (k j:Nat):ByteArray:=ez (l.take k)++strOfNums [48+(((l.getD k (In.start 0)).rule:Nat):Int)]++bA ((l.getD k (In.start 0)).facts.take j)
theorem B4 (l:List In) (k:Nat) (hk:k<l.length):qj l k 0=ez (l.take k)++strOfNums [48+(l[k].rule:Int)]:=by
 have e:l.getD k (In.start 0)=l[k]:=by simp[List.getD,List.getElem?_eq_getElem hk]
 unfold qj
 rw[e]
 simp[bA,cg]
theorem B7 (l:List In) (k:Nat) (hk:k<l.length) (j:Nat) (hj:j<l[k].facts.length):qj l k (j+1)=qj l k j++cz l[k].facts[j].1 l[k].facts[j].2.1:=by
 have e:l.getD k (In.start 0)=l[k]:=by simp[List.getD,List.getElem?_eq_getElem hk]
 unfold qj
 rw[e,List.take_succ_eq_append_getElem hj]
 unfold bA
 rw[List.map_append]
 show _++cg (_++[cz l[k].facts[j].1 l[k].facts[j].2.1])=_
 rw[ia,ByteArray.append_assoc,ByteArray.append_assoc,ByteArray.append_assoc]
theorem EK (l:List In) (k:Nat) (hk:k<l.length):qj l k l[k].facts.length++⟨#[59]⟩=ez (l.take (k+1)):=by
 have e:l.getD k (In.start 0)=l[k]:=by simp[List.getD,List.getElem?_eq_getElem hk]
 rw[p7 l k hk]
 unfold qj fN
 rw[e,List.take_length]
 simp only[ByteArray.append_assoc]
theorem DB (l:List In) (k:Nat) (hk:k<l.length) (h:∀ i∈l,i.facts.length≤3) (hl:l.length≤2160000) (j:Nat):(qj l k j).size≤700000000:=by
 have e:l.getD k (In.start 0)=l[k]:=by simp[List.getD,List.getElem?_eq_getElem hk]
 have h1:=lZ (l.take k) (fun i hi=>by have:=h i (List.mem_of_mem_take hi);omega)
 have h2:=List.length_take_le' k l
 unfold qj
 rw[e,ByteArray.size_append,ByteArray.size_append,fA]
 have h3:(strOfNums [48+(l[k].rule:Int)]).size=1:=rfl
 have h4:=List.length_take_le' j l[k].facts
 have h5:=h l[k] (List.getElem_mem hk)
 omega
theorem xX (wt:Nat→Int) (l:List In) (a0:Option Addr) (c0:Nat) (w:World) (hl:l.length≤2160000) (hok:∀ i∈l,i.facts.length≤3∧i.rule≤9∧∀ q∈i.facts,q.1<60∧0≤q.2.1∧q.2.1≤9)
  (hrow:0<l.length→∃ g o,a0=some ⟨g,o,none⟩∧g<w.heap.size∧w.rangeAt g o (cC wt l)) :
  Calls Tryz.prog 62 #[.slice a0 l.length c0] w fun e w'=>e=.returned (.string (ez l))∧w.grownBy w' none:=by
 obtain⟨i0,hi0,hz0,hz1,hz2⟩:=info_parts Tryz.infoB
 have HROW:=af hrow
 have HOK:=af hok
 have HTZ:Hid (∀ k,(ez (l.take k)).size≤700000000):=af (fun k=>by
  have h1:=lZ (l.take k) (fun i hi=>by have:=(hok i (List.mem_of_mem_take hi)).1;omega)
  have h2:=List.length_take_le' k l
  omega)
 have HTJ:Hid (∀ k (hk:k<l.length) j,(qj l k j).size≤700000000):=af (fun k hk j=>DB l k hk (fun i hi=>(hok i hi).1) hl j)
 clear hrow hok
 go_enter Tryz.func62,Tryz.ntmps62
 go_wp2_with fail
 go_loopw [3,10] (fun t i wr=>∃ k:Nat,k≤l.length∧i=.int .i64 k∧wr.ownsRow w.heap.size 5 1 t (ez (l.take k)).size (Lib.strCells (ez (l.take k)))∧w.grownBy wr none) (fun _ i _=>l.length - (intOf i).toNat)
 case atStart=>exact⟨0,by omega,rfl,by simpa [ez,cg,Lib.strCells] using World.ownsRow_nil w w.heap.size 5 1,ag _ _⟩
 case round=>
  obtain⟨k,hk,rfl,hown,hg⟩:=hrel
  have HG:=af hg
  have HOW:=af hown
  have hsz:=hg.size
  by_cases hlt:k<l.length
  ·obtain⟨g,o,rfl,hgb,hrg⟩:=HROW.out (by omega)
   obtain⟨hf3,hr9,hq⟩:=HOK.out l[k] (List.getElem_mem hlt)
   have HQ:=af hq
   obtain⟨L,hL⟩:∃ L,L=aF (wt l[k].rule) l[k]:=⟨_,rfl⟩
   have HRG:Hid (wr.rangeAt g (o+k*24) L):=af (by rw[hL];exact de (s6 wt hrg hlt) hg)
   have hLl:L.length=24:=by rw[hL];rfl
   have HIL:Hid ((Tryz.prog.info? 176).map (·.size)=some L.length):=af (by rw[hLl];exact bD)
   have HONA:Hid (L.toArray.all (·.oneCell')=true):=af (all_oneCell_toArray (by rw[hL];exact cm _ _))
   have HBN:Hid ((wr.alloc (.cells L.toArray 176)).heap[wr.heap.size]?=some (.cells L.toArray 176 (0,0))):=af (heap_alloc_new wr _)
   obtain⟨rl,hrl⟩:∃ rl,rl=l[k].rule:=⟨_,rfl⟩
   obtain⟨nf,hnf⟩:∃ nf,nf=l[k].facts.length:=⟨_,rfl⟩
   have hrb:rl≤9:=by omega
   have hnb:nf≤3:=by omega
   have c0':(wr.alloc (.cells L.toArray 176)).cell? ⟨wr.heap.size,0,none⟩=some (.int .i64 rl):=be HBN.out (by rw[hL,hrl];rfl)
   have HL3:Hid (L[3]?=some (.int .i64 nf)):=af (by rw[hL,hnf];rfl)
   have HLQ:Hid (∀ j (hj:j<l[k].facts.length),∀ x v,(nL l[k].facts[j])[x]?=some v→L[4+j*4+x]?=some v):=af (fun j hj x v hv=>by
    have ef:wi l[k].facts j=l[k].facts[j]:=by simp[wi,List.getD,List.getElem?_eq_getElem hj]
    have hx:=(List.getElem?_eq_some_iff.1 hv).1
    rw[qp] at hx
    rw[←ef] at hv
    rw[hL,←hv]
    match j,(show j<3 by omega),x,hx with
    |0,_,0,_=>rfl
    |0,_,1,_=>rfl
    |0,_,2,_=>rfl
    |0,_,3,_=>rfl
    |1,_,0,_=>rfl
    |1,_,1,_=>rfl
    |1,_,2,_=>rfl
    |1,_,3,_=>rfl
    |2,_,0,_=>rfl
    |2,_,1,_=>rfl
    |2,_,2,_=>rfl
    |2,_,3,_=>rfl)
   obtain⟨ta,tm,tc,rfl⟩:=an hown
   have em:=ar hown
   subst em
   have hts:=HTZ.out k
   have HZ:=af (B4 l k hlt)
   have HSU:=af (B7 l k hlt)
   have HAL:=af (EK l k hlt)
   have HTK:=af (HTJ.out k hlt)
   have hne:g≠wr.heap.size:=by omega
   have hgl:g<wr.heap.size:=by omega
   rw[←hrl] at HZ
   rw[←hnf] at HAL
   have HS1:Hid (∀ (w3:World) (v':Value),w3.ownsRow w.heap.size 5 1 v' ((ez (l.take k)).size+1) (Lib.strCells (ez (l.take k))++[.int .u8 (48+(rl:Int))])→w3.ownsRow w.heap.size 5 1 v' (qj l k 0).size (Lib.strCells (qj l k 0))):=af (fun w3 v' h=>by
    rw[HZ.out,j4,sY (by omega) (by omega),ByteArray.size_append]
    exact h)
   have how1:=aq HOW.out (ab (ab (ag wr none) (.cells L.toArray 176)) (.cells #[.int .u8 (48+(rl:Int))] 5)) (fun g hg=>by cases hg)
   have HNW:Hid (∀ (j:Nat) (u:Value),([.int .u8 (48+(rl:Int))]:List Value)[j]?=some u→((wr.alloc (.cells L.toArray 176)).alloc (.cells #[.int .u8 (48+(rl:Int))] 5)).cell? ((⟨wr.heap.size+1,0,none⟩:Addr).add j)=some u):=af (fun j u hj=>by
    have:=bj (w:=wr.alloc (.cells L.toArray 176)) (t:=5) hj
    rw[show (wr.alloc (.cells L.toArray 176)).heap.size=wr.heap.size+1 by simp] at this
    exact this)
   have HLT:=af (fun g hg=>(HOW.out.lt g hg).1)
   have HOB:Hid (∀ g,(Value.slice ta (ez (l.take k)).size tc).ownBlock=some g→g<wr.heap.size):=af (fun g hg=>(HOW.out.lt g hg).2)
   obtain⟨t0,ht0⟩:∃ t0,t0=ez (l.take k):=⟨_,rfl⟩
   rw[←ht0] at how1 HLT HOB HS1 hts ⊢
   have w48:(48:Int)+(rl:Int)≤255:=by omega
   have HNF:=af hnf
   clear ht0 hL hown hg hq hrl hnf hrg HZ
   go_wp2_with (first
    |(refine wpList_load_mid rfl 176 (.tmp 12) rfl g (o+k*24) rfl L _ HRG.out Tryz.underlying176 rfl HIL.out ?_)
    |(refine ay rfl 176 (.tmp 5) (.tmp 13) rfl _ L rfl rfl hLl.symm HIL.out HONA.out ?_)
    |(at_builtin;refine wpList_append_own _ rfl (.tmp 14) (.tmp 19) 160 rfl (w.heap.size) 5 i0 (.int .u8 0) 1 1 Tryz.underlying160 hi0 hz0 hz1 hz2 rfl (by decide) _ _ _ rfl how1 _ 1 1 [.int .u8 (48+(rl:Int))] rfl rfl HNW.out (by simp[Value.oneCell']) (by unfold maxLen;omega) (by omega) (by simp;omega) ?_))
   intro v1 w3 hown3 hg3 _
   have HO3:=af (HS1.out _ _ hown3)
   have HG3:Hid (w.grownBy w3 none):=af (aK (ae HG.out (ab (ab (ag wr none) _) _)) hg3 HLT.out)
   have HB3:Hid (w3.heap[wr.heap.size]?=some (.cells L.toArray 176 (0,0))):=af (by
    have h4:=(Below.heap_alloc (wr.alloc (.cells L.toArray 176)) (.cells #[.int .u8 (48+(rl:Int))] 5) _ (lt_of_block HBN.out)).trans HBN.out
    exact (hg3.block _ (lt_of_block h4) (fun e=>by
     have:=HOB.out _ e.symm
     omega)).trans h4)
   clear hown3 hg3 how1 HS1 c0'
   go_wp2_with fail
   go_loopw [3,6] (fun t i wr2=>∃ j:Nat,j≤nf∧i=.int .i64 j∧wr2.ownsRow w.heap.size 5 1 t (qj l k j).size (Lib.strCells (qj l k j))∧w.grownBy wr2 none∧wr2.heap[wr.heap.size]?=some (.cells L.toArray 176 (0,0))) (fun _ i _=>nf - (intOf i).toNat)
   case atStart=>exact⟨0,by omega,rfl,HO3.out,HG3.out,HB3.out⟩
   case round=>
    rename World=>wr2
    obtain⟨j,hj,rfl,hown,hg2,hbl⟩:=hrel
    have HG2:=af hg2
    have HOW2:=af hown
    have HBL:=af hbl
    have hsz2:=hg2.size
    have hbs:=lt_of_block hbl
    have d3:wr2.cell? ⟨wr.heap.size,3,none⟩=some (.int .i64 nf):=be hbl HL3.out
    obtain⟨ua,um,uc,rfl⟩:=an hown
    have em2:=ar hown
    subst em2
    have hts2:=HTK.out j
    have HLT2:=af (fun g hg=>(HOW2.out.lt g hg).1)
    have HNB:Hid (∀ g,(Value.slice ua (qj l k j).size uc).ownBlock=some g→g≠wr.heap.size):=af (fun g hg e=>by
     subst e
     exact aS HOW2.out HBL.out (by decide) hg)
    by_cases hltj:j<nf
    ·have hjf:j<l[k].facts.length:=by have:=HNF.out;omega
     obtain⟨Q,hQ⟩:∃ Q,Q=nL l[k].facts[j]:=⟨_,rfl⟩
     have hQl:Q.length=4:=by rw[hQ];rfl
     have HIQ:Hid ((Tryz.prog.info? 114).map (·.size)=some Q.length):=af (by rw[hQl];exact jN)
     have HRQ:Hid (wr2.rangeAt wr.heap.size (4+j*4) Q):=af (bU hbl (fun x v hv=>by rw[hQ] at hv;exact HLQ.out j hjf x v hv))
     obtain⟨q1,q2,q3⟩:=HQ.out l[k].facts[j] (List.getElem_mem hjf)
     have HTX:Hid (∀ W,Calls Tryz.prog 50 #[.agg Q.toArray] W fun e w'=>e=.returned (.string (cz l[k].facts[j].1 l[k].facts[j].2.1))∧W.grownBy w' none):=af (fun W=>by
      rw[hQ]
      exact mL l[k].facts[j].1 l[k].facts[j].2.1 l[k].facts[j].2.2 W q1 q2 q3)
     have HSJ:=af (HSU.out j hjf)
     have hfz:=kf l[k].facts[j].1 l[k].facts[j].2.1
     obtain⟨ft,hft⟩:∃ ft,ft=cz l[k].facts[j].1 l[k].facts[j].2.1:=⟨_,rfl⟩
     rw[←hft] at HTX HSJ hfz
     have HS2:Hid (∀ (w4:World) (v':Value),w4.ownsRow w.heap.size 5 1 v' ((qj l k j).size+3) (Lib.strCells (qj l k j)++Lib.strCells ft)→w4.ownsRow w.heap.size 5 1 v' (qj l k (j+1)).size (Lib.strCells (qj l k (j+1)))):=af (fun w4 v' h=>by
      rw[HSJ.out,j4,ByteArray.size_append,hfz]
      exact h)
     obtain⟨t1,ht1⟩:∃ t1,t1=qj l k j:=⟨_,rfl⟩
     rw[←ht1] at HOW2 HLT2 HNB HS2 hts2 ⊢
     have j3:(j:Int)<3:=by omega
     have j0:(0:Int)≤(j:Int):=by omega
     clear ht1 hft hQ hown hg2 hbl q1 q2 q3 HSJ HLQ HSU
     go_wp2_with (first
      |(refine wpList_load_mid rfl 114 (.tmp 33) rfl wr.heap.size (4+j*4) rfl Q _ HRQ.out Tryz.underlying114 rfl HIQ.out ?_))
     go_at_call 50
     refine (HTX.out _).mono ?_
     rintro e w4 ⟨rfl,hg4⟩
     have HG4:=af hg4
     have hs4:=hg4.size
     have how4:=aq HOW2.out hg4 (fun g hg=>by cases hg)
     clear hg4
     go_wp2_with (first
      |(at_builtin;refine Lib.wpList_append_own_string _ rfl (.tmp 36) (.tmp 37) 160 9 rfl (w.heap.size) 5 i0 Tryz.underlying160 Tryz.underlying9 hi0 hz0 hz1 hz2 _ _ _ rfl how4 ft rfl (by unfold maxLen;omega) (by omega) (by omega) ?_))
     intro v5 w5 hown5 hg5 _
     have HO5:=af (HS2.out _ _ hown5)
     have HG5:Hid (w.grownBy w5 none):=af (aK (ae HG2.out HG4.out) hg5 HLT2.out)
     have HB5:Hid (w5.heap[wr.heap.size]?=some (.cells L.toArray 176 (0,0))):=af (by
      have h4:=(HG4.out.block _ hbs (by simp)).trans HBL.out
      exact (hg5.block _ (lt_of_block h4) (fun e=>HNB.out _ e.symm rfl)).trans h4)
     clear hown5 hg5 how4
     go_wp2_with fail
     go_roundw
     case rel=>exact⟨j+1,by omega,by go_num,HO5.out,HG5.out,HB5.out⟩
     case measure=>simp[intOf];omega
    ·have ej:j=nf:=by omega
     subst ej
     have HS2:Hid (∀ (w4:World) (v':Value),w4.ownsRow w.heap.size 5 1 v' ((qj l k j).size+1) (Lib.strCells (qj l k j)++[.int .u8 59])→w4.ownsRow w.heap.size 5 1 v' (ez (l.take (k+1))).size (Lib.strCells (ez (l.take (k+1))))):=af (fun w4 v' h=>by
      rw[←HAL.out,j4,q9,ByteArray.size_append]
      exact h)
     have how4:=aq HOW2.out (ab (ag wr2 none) (.cells #[.int .u8 59] 5)) (fun g hg=>by cases hg)
     obtain⟨t1,ht1⟩:∃ t1,t1=qj l k j:=⟨_,rfl⟩
     rw[←ht1] at HOW2 HLT2 HNB HS2 hts2 how4 ⊢
     clear ht1 hown hg2 hbl HLQ HSU
     go_wp2_with (first
      |(at_builtin;refine wpList_append_own _ rfl (.tmp 39) (.tmp 40) 160 rfl (w.heap.size) 5 i0 (.int .u8 0) 1 1 Tryz.underlying160 hi0 hz0 hz1 hz2 rfl (by decide) _ _ _ rfl how4 _ 1 1 [.int .u8 59] rfl rfl (fun j u hj=>bj hj) (by simp[Value.oneCell']) (by unfold maxLen;omega) (by omega) (by simp;omega) ?_))
     intro v5 w5 hown5 hg5 _
     have HO5:=af (HS2.out _ _ hown5)
     have HG5:Hid (w.grownBy w5 none):=af (aK (ae HG2.out (ab (ag wr2 none) _)) hg5 HLT2.out)
     clear hown5 hg5 how4
     go_wp2_with fail
     go_roundw
     case rel=>exact⟨k+1,by omega,by go_num,HO5.out,HG5.out⟩
     case measure=>simp[intOf];omega
  ·have hkl:k=l.length:=by omega
   subst hkl
   rw[List.take_length] at HOW hown
   have hcv:=wF hown
   clear hg hown
   go_wp2_with fail
   go_ret
   exact⟨rfl,HG.out⟩
theorem sP (wt:Nat→Int) (l:List In) (v:Value) (B:Nat) (w:World) (hl:l.length≤2160000) (h:w.ownsRow B 176 24 v l.length (cC wt l)) :
  Calls Tryz.prog 61 #[v] w fun e w'=>∃ a c,e=.returned (.slice a (bK (iZ wt) l).length c)∧(0<(bK (iZ wt) l).length→∃ g o,a=some ⟨g,o,none⟩∧g<w'.heap.size∧w'.rangeAt g o (cC wt (bK (iZ wt) l)))∧w.grownBy w' none:=by
 obtain⟨a,m,c,rfl⟩:=an h
 have em:=ar h
 subst em
 rw[dO]
 by_cases hz:l.length=0
 ·rw[hz]
  refine (rz c a w).mono ?_
  rintro e w' ⟨rfl,rfl⟩
  exact⟨a,c,rfl,fun h=>by omega,ag _ _⟩
 ·have hcap:=tz h
  obtain⟨g,rfl,_,_,hgl,hcell⟩:=aC h (by omega)
  refine (tf wt l.length l g 0 c w rfl hl (by omega) hcap hgl (fun j v hv=>by rw[Nat.zero_add];exact hcell j v hv)).mono ?_
  rintro e w' ⟨g',o',c',rfl,_,h2,h3,h4⟩
  exact⟨_,c',rfl,fun _=>⟨g',o',rfl,h2,h3⟩,h4⟩
theorem pB {z:Int} {s:ByteArray} {F:List au} (hF:rp F) (r:Nat) (L:List Nat):∀ i∈dz z s F r L,qR F i:=by
 have key:∀ (L:List Nat) (l:List In),(∀ i∈l,qR F i)→∀ i∈L.foldl (kI z s F) l,qR F i:=by
  intro L
  induction L with
  |nil=>intro l h;exact h
  |cons p L ih=>intro l h;exact ih _ (C6 hF h p)
 unfold dz
 refine key L _ (fun i hi=>?_)
 simp at hi
 subst hi
 exact ud F r
theorem vT {s:ByteArray} {F:List au} (hF:rp F) (hFl:F.length≤60) {R:List ax} (hR:∀ r∈R,lV s r) (hR9:R.length≤9):∀ i∈bz 0 s F R R.length,i.facts.length≤3∧i.rule≤9∧∀ q∈i.facts,q.1<60∧0≤q.2.1∧q.2.1≤9:=by
 intro i hi
 unfold bz at hi
 obtain⟨k,hk,hm⟩:=List.mem_flatMap.mp hi
 have hk':k<R.length:=by simpa using hk
 have e:R.getD k (0,[],[])=R[k]:=by simp[List.getD,List.getElem?_eq_getElem hk']
 rw[e] at hm
 obtain⟨h1,h2⟩:=iE hFl k (hR _ (List.getElem_mem hk')) i hm
 exact⟨h1,by omega,fun q hq=>hF q ((pB hF k _ i hm).facts q hq)⟩
theorem rt (x:Nat) (X:ap) (kv:Nat→Value) (n:Int) (k:Nat) (s:ByteArray) (R:List ax) (rv:Value) (B:Nat) (fd:In→Bool) (w:World) (h:jq w x X kv) (hR:oL w X kv) (hl:∀ c,c<60→(X.hist c).length≤9223372036854775807) (hf:aL X n=some k) (hd:EQ (jg X k))
  (hsrc:X.src.1.1=rv) (hrl:bQ w B s rv R) (hRW:∀ r∈R,lV s r) (hR9:R.length≤9)
  (HHAS:Hid (∀ (j:Nat) (hj:j<R.length) (i:In) (W:World),i∈dz 0 s (fQ X k) j R[j].2.1→w.grownBy W none→Calls Tryz.prog 89 #[.pointer (some ⟨x,3+k*244+243,none⟩),.agg (aF (eh s R j) i).toArray] W fun e w'=>e=.returned (.bool (fd i))∧W.grownBy w' none)) :
  Calls Tryz.prog 31 #[.pointer (some ⟨x,0,none⟩),.int .i64 n] w fun e w'=>e=.returned (.tuple #[.string (ez (bK (iZ (eh s R)) (jv s (fQ X k) R fd R.length))),.int .i64 0])∧w.grownBy w' none:=by
 have HF:=af (eX x X n w h.ses)
 rw[hf] at HF
 have hk:k<8:=by
  unfold aL at hf
  split at hf
  ·cases hf
  ·exact (bu hf).1
 have HSE:=af (rI x X kv k w hk h hR hl)
 have hFO:rp (fQ X k):=fun q hq=>⟨(jM hq).1,hd q.1 q.2.1 (jM hq).1 (jM hq).2⟩
 have hFl:=tD X k
 have hc0:=h.rules
 rw[hsrc] at hc0
 have hxl:=h.lt
 obtain⟨F,hF⟩:∃ F,F=fQ X k:=⟨_,rfl⟩
 rw[←hF] at HSE HHAS hFO hFl ⊢
 obtain⟨ra,rm,rc,rfl⟩:∃ a m c,rv=.slice a m c:=by
  obtain⟨xs,h1,_⟩:=hrl
  exact an h1
 have erm:rm=R.length:=by
  obtain⟨xs,h1,_⟩:=hrl
  exact ar h1
 subst erm
 have hrl':∀ W,w.grownBy W none→bQ W B s (.slice ra R.length rc) R:=fun W hW=>by
  obtain⟨xs,h1,h2⟩:=hrl
  exact⟨xs,aq h1 hW (fun g hg=>by cases hg),fB hW (fun g hg=>by cases hg) R xs h2⟩
 have HOP:Hid (∀ (W:World) (fa:Option Addr) (fc B2:Nat),w.grownBy W none→W.ownsRow B2 114 4 (.slice fa F.length fc) F.length (bF F)→Calls Tryz.prog 60 #[.slice ra R.length rc,.slice fa F.length fc,.pointer (some ⟨x,3+k*244+243,none⟩)] W fun e w'=>∃ v,e=.returned v∧w'.ownsRow W.heap.size 176 24 v (jv s F R fd R.length).length (cC (eh s R) (jv s F R fd R.length))∧W.grownBy w' none):=af (fun W fa fc B2 hW hfr=>
  xA s F R ra fa rc fc B B2 x (3+k*244+243) fd W hRW hR9 (hrl' W hW) hFl hfr (af (fun j hj i W2 hi hW2=>HHAS.out j hj i W2 hi (ae hW hW2))))
 have hOl:(jv s F R fd R.length).length≤2160000:=by
  have h1:=kX hFl hRW R.length (Nat.le_refl _)
  have h2:=List.length_filter_le (fun i=>!fd i) (bz 0 s F R R.length)
  unfold jv
  omega
 have hOk:∀ i∈jv s F R fd R.length,i.facts.length≤3∧i.rule≤9∧∀ q∈i.facts,q.1<60∧0≤q.2.1∧q.2.1≤9:=fun i hi=>vT hFO hFl hRW hR9 i (List.mem_filter.mp hi).1
 obtain⟨O,hO⟩:∃ O,O=jv s F R fd R.length:=⟨_,rfl⟩
 rw[←hO] at HOP hOl hOk ⊢
 have HOR:=af (fun v B W=>sP (eh s R) O v B W hOl)
 obtain⟨M,hM⟩:∃ M,M=bK (iZ (eh s R)) O:=⟨_,rfl⟩
 have HWR:Hid (∀ (a:Option Addr) (c:Nat) (W:World),(0<M.length→∃ g o,a=some ⟨g,o,none⟩∧g<W.heap.size∧W.rangeAt g o (cC (eh s R) M))→Calls Tryz.prog 62 #[.slice a M.length c] W fun e w'=>e=.returned (.string (ez M))∧W.grownBy w' none):=af (fun a c W hr=>by
  refine xX (eh s R) M a c W (by rw[hM,dO];exact hOl) (fun i hi=>hOk i ?_) hr
  rw[hM] at hi
  exact lz.mp hi)
 rw[←hM] at HOR ⊢
 have HC0:=af hc0
 clear h hR hl hf hd hsrc hrl hrl' hRW hF hO hM hFO hOk hc0 HHAS
 go_enter Tryz.func31,Tryz.ntmps31
 go_wp2_with fail
 go_at_call 41
 refine HF.out.mono ?_
 rintro e w' ⟨rfl,rfl⟩
 simp only[dm]
 go_wp2_with fail
 go_at_call 49
 refine HSE.out.mono ?_
 rintro e w1 ⟨v,rfl,hown,hg1⟩
 obtain⟨a,m,c,rfl⟩:=an hown
 have em:=ar hown
 subst em
 have HG1:=af hg1
 have HOW:=af hown
 have hc1:=am hg1 HC0.out
 clear HSE hg1 hown HF
 go_wp2_with fail
 go_region_held3 (fun W=>W.cell? ⟨x,0,none⟩=some (.slice ra R.length rc)) (first|go_keep|(exact am hg2 (by assumption))) (first
  |(go_at_call 60
    refine (HOP.out _ _ _ _ (al HG1.out 1) (aq HOW.out (al (ag w1 none) 1) (fun g hg=>by cases hg))).mono ?_
    rintro e w2 ⟨v2,rfl,ho2,hg2⟩
    have HO2:=af ho2
    clear ho2))
 have HG2:Hid (w'.grownBy w2 none):=af (ae HG1.out (cF (n:=1) hg2))
 clear hg2
 go_wp2_with fail
 go_at_call 61
 refine (HOR.out _ _ _ HO2.out).mono ?_
 rintro e w3 ⟨a3,c3,rfl,hr3,hg3⟩
 have HR3:=af hr3
 have HG3:=af hg3
 clear hr3 hg3
 go_wp2_with fail
 go_at_call 62
 refine (HWR.out _ _ _ HR3.out).mono ?_
 rintro e w4 ⟨rfl,hg4⟩
 have HG4:=af hg4
 clear hg4
 go_wp2_with fail
 go_ret2
 exact⟨rfl,ae HG2.out (ae HG3.out HG4.out)⟩
theorem qZ (x:Nat) (X:ap) (kv:Nat→Value) (n:Int) (w:World) (h:jq w x X kv) (hf:aL X n=none) :
  Calls Tryz.prog 31 #[.pointer (some ⟨x,0,none⟩),.int .i64 n] w fun e w'=>e=.returned (.tuple #[.string ByteArray.empty,.int .i64 6])∧w.grownBy w' none:=by
 have HF:=af (eX x X n w h.ses)
 rw[hf] at HF
 clear h hf
 go_enter Tryz.func31,Tryz.ntmps31
 go_wp2_with fail
 go_at_call 41
 refine HF.out.mono ?_
 rintro e w' ⟨rfl,rfl⟩
 simp only[dm]
 go_wp2
 go_ret2
 exact⟨rfl,ag _ _⟩
def qQ (s:ByteArray) (e:ff) (p:Nat):Option (Nat×Option Int):=
 if bt s p=43 then
  (if (0≤fE 0 e (bt s (p+2))+id (bt s (p+3))∧fE 0 e (bt s (p+2))+id (bt s (p+3))<10)∧0≤fE 0 e (bt s (c9 s (p+2)))+id (bt s (c9 s (p+2)+1))∧fE 0 e (bt s (c9 s (p+2)))+id (bt s (c9 s (p+2)+1))<10
   then some (((bt s (p+1) - 97)*10+(fE 0 e (bt s (p+2))+id (bt s (p+3)))).toNat,some (fE 0 e (bt s (c9 s (p+2)))+id (bt s (c9 s (p+2)+1)))) else none)
 else (if 0≤fE 0 e (bt s (p+2))+id (bt s (p+3))∧fE 0 e (bt s (p+2))+id (bt s (p+3))<10
   then some (((bt s (p+1) - 97)*10+(fE 0 e (bt s (p+2))+id (bt s (p+3)))).toNat,none) else none)
def fZ (s:ByteArray) (e:ff) (K:List Nat):Option (List (Nat×Option Int)×Bool):=K.foldl (fun o p=>o.bind fun q=>if bt s p=46 then some (q.1,true) else (qQ s e p).map fun x=>(q.1++[x],q.2)) (some ([],false))
theorem oe (s:ByteArray) (e:ff) (K:List Nat) (j:Nat) (hj:j<K.length):fZ s e (K.take (j+1))=(fZ s e (K.take j)).bind fun q=>if bt s K[j]=46 then some (q.1,true) else (qQ s e K[j]).map fun x=>(q.1++[x],q.2):=by
 unfold fZ
 rw[List.take_succ_eq_append_getElem hj,List.foldl_append]
 rfl
theorem A5 (s:ByteArray) (e:ff) (K:List Nat):∀ j,fZ s e (K.take j)=none→fZ s e K=none:=by
 intro j h
 have:∀ (l:List Nat),l.foldl (fun o p=>o.bind fun q=>if bt s p=46 then some (q.1,true) else (qQ s e p).map fun x=>(q.1++[x],q.2)) (none:Option (List (Nat×Option Int)×Bool))=none:=by
  intro l
  induction l with
  |nil=>rfl
  |cons p l ih=>exact ih
 unfold fZ at h ⊢
 rw[←List.take_append_drop j K,List.foldl_append,h]
 exact this _
theorem kR (s:ByteArray) (e:ff) (K:List Nat):∀ j,j≤K.length→∀ q,fZ s e (K.take j)=some q→q.1.length≤j
 |0,_,q,h=>by
  have:q=([],false):=by simpa [fZ] using h.symm
  rw[this]
  simp
 |j+1,hj,q,h=>by
  rw[oe s e K j (by omega)] at h
  cases ho:fZ s e (K.take j) with
  |none=>rw[ho] at h;cases h
  |some r=>
   have ih:=kR s e K j (by omega) r ho
   rw[ho] at h
   simp only[Option.bind_some] at h
   split at h
   ·cases h;simp only;omega
   ·cases hx:qQ s e (K[j]'(by omega)) with
    |none=>rw[hx] at h;cases h
    |some x=>
     rw[hx] at h
     cases h
     simp only[List.length_append,List.length_cons,List.length_nil]
     omega
def D3 (q:Nat×Option Int):List Value:=[.int .i64 q.1,.bool q.2.isSome,.int .i64 (q.2.getD 0)]
def B3 (l:List (Nat×Option Int)):List Value:=l.flatMap D3
theorem yl (q:Nat×Option Int):∀ v∈D3 q,v.oneCell'=true:=by
 intro v hv
 simp only[D3,List.mem_cons,List.not_mem_nil,or_false] at hv
 rcases hv with h|h|h <;> rw[h] <;> rfl
def xS (s:ByteArray) (p:Nat):List Value:=[.int .i64 (d9 s p).k,.int .i64 (d9 s p).c,.int .i64 (d9 s p).a1,.int .i64 (d9 s p).a2,.int .i64 (d9 s p).a3,.int .i64 (d9 s p).b1,.int .i64 (d9 s p).b2,.int .i64 (d9 s p).b3]
theorem Ef (s:ByteArray) (p:Nat):∀ v∈xS s p,v.oneCell'=true:=by
 intro v hv
 simp only[xS,List.mem_cons,List.not_mem_nil,or_false] at hv
 rcases hv with h|h|h|h|h|h|h|h <;> rw[h] <;> rfl
theorem td (c:Int):-1≤id c∧id c≤1:=by
 unfold id
 split
 ·omega
 ·split <;> omega
theorem tx {e:ff} {t:Int} (_hs:bc t=true) (he:∀ n v,e n=some v→0≤v∧v≤9):0≤fE 0 e t∧fE 0 e t≤9:=by
 unfold fE
 split
 ·rename_i h
  simp[bM] at h
  omega
 ·cases h:e (t - 119).toNat with
  |none=>simp
  |some v=>
   have:=he _ v h
   simpa using this
theorem kK (e:ff) (t u:Int) (w:World) (hs:bc t=true) (he:∀ n v,e n=some v→0≤v∧v≤9) :
  Calls Tryz.prog 138 #[.agg (nW e).toArray,.agg #[.int .i64 (dw t),.int .i64 (dC t),.int .i64 (id u)]] w fun r w'=>r=.returned (.tuple #[.int .i64 (fE 0 e t+id u),.bool (decide (0≤fE 0 e t+id u)&&decide (fE 0 e t+id u<10))])∧w.grownBy w' none:=
 qY (nW e) [.int .i64 (dw t),.int .i64 (dC t),.int .i64 (id u)] (fE 0 e t) (id u) w rfl rfl rfl (tx hs he) (td u) (af (fun W=>by
  refine (pI (dB e 0) (dB e 1) (dB e 2) (dB e 3) _ _ _ _ _ _ _ W (qi e t hs)).mono ?_
  rintro r w' ⟨rfl,rfl⟩
  exact⟨rfl,ab (ab (ag _ _) _) _⟩))
def CX (s:ByteArray) (e:ff) (p:Nat) (v:Value):Prop:=match qQ s e p with
 |some x=>v=.tuple #[.agg (D3 x).toArray,.bool true]
 |none=>∃ c b d,v=.tuple #[.agg #[.int .i64 c,.bool b,.int .i64 d],.bool false]
theorem t6 (s:ByteArray) (e:ff) (p:Nat) (w:World) (hok:cP s p=true) (h46:bt s p≠46) (he:∀ n v,e n=some v→0≤v∧v≤9) :
  Calls Tryz.prog 118 #[.agg (nW e).toArray,.agg (xS s p).toArray] w fun r w'=>(∃ v,r=.returned v∧CX s e p v)∧w.grownBy w' none:=by
 unfold cP at hok
 by_cases h43:bt s p=43
 ·rw[if_pos h43] at hok
  unfold fI at hok
  simp only[Bool.and_eq_true] at hok
  obtain⟨⟨h1,h2'⟩,h3'⟩:=hok
  have h2:bc (bt s (p+2))=true:=h2'
  have h3:bc (bt s (c9 s (p+2)))=true:=h3'
  have ea:d9 s p=xD s (p+1):=by simp[d9,h43]
  have hc:0≤bt s (p+1) - 97∧bt s (p+1) - 97≤5:=by simp[aQ] at h1;omega
  have b1:=tx h2 he
  have b2:=td (bt s (p+3))
  have b3:=tx h3 he
  have b4:=td (bt s (c9 s (p+2)+1))
  have:=lM (nW e) (xS s p) 1 (bt s (p+1) - 97) (fE 0 e (bt s (p+2))+id (bt s (p+3))) (fE 0 e (bt s (c9 s (p+2)))+id (bt s (c9 s (p+2)+1))) _ _ w rfl rfl (by rw[xS,ea];rfl) (by rw[xS,ea];rfl) (.inl rfl) hc (by omega)
   (af (fun W=>by
    have:=kK e (bt s (p+2)) (bt s (p+3)) W h2 he
    unfold xS
    rw[ea]
    exact this))
   (af (fun _ W=>by
    have:=kK e (bt s (c9 s (p+2))) (bt s (c9 s (p+2)+1)) W h3 he
    unfold xS
    rw[ea]
    exact this))
  refine this.mono ?_
  rintro r w' ⟨rfl,hg⟩
  refine⟨⟨_,rfl,?_⟩,hg⟩
  unfold CX qQ
  rw[if_pos h43]
  generalize fE 0 e (bt s (p+2))+id (bt s (p+3))=d at*
  generalize fE 0 e (bt s (c9 s (p+2)))+id (bt s (c9 s (p+2)+1))=v at*
  by_cases hd:0≤d∧d<10
  ·by_cases hv:0≤v∧v<10
   ·rw[if_pos ⟨hd,hv⟩]
    simp[D3,hd,hv]
    omega
   ·rw[if_neg (fun h=>hv h.2)]
    have hv':(decide (0≤v)&&decide (v<10))=false:=by simpa using hv
    simp[hd,hv']
  ·rw[if_neg (fun h=>hd h.1)]
   have hd':(decide (0≤d)&&decide (d<10))=false:=by simpa using hd
   simp[hd']
 ·rw[if_neg h43] at hok
  by_cases h45:bt s p=45
  ·rw[if_pos h45] at hok
   unfold gk at hok
   simp only[Bool.and_eq_true] at hok
   obtain⟨h1,h2'⟩:=hok
   have h2:bc (bt s (p+2))=true:=h2'
   have ea:d9 s p=vH s (p+1):=by simp[d9,h45]
   have hc:0≤bt s (p+1) - 97∧bt s (p+1) - 97≤5:=by simp[aQ] at h1;omega
   have b1:=tx h2 he
   have b2:=td (bt s (p+3))
   have:=lM (nW e) (xS s p) 2 (bt s (p+1) - 97) (fE 0 e (bt s (p+2))+id (bt s (p+3))) 0 _ false w rfl rfl (by rw[xS,ea];rfl) (by rw[xS,ea];rfl) (.inr rfl) hc (by omega)
    (af (fun W=>by
     have:=kK e (bt s (p+2)) (bt s (p+3)) W h2 he
     unfold xS
     rw[ea]
     exact this))
    (af (fun h=>by omega))
   refine this.mono ?_
   rintro r w' ⟨rfl,hg⟩
   refine⟨⟨_,rfl,?_⟩,hg⟩
   unfold CX qQ
   rw[if_neg h43]
   generalize fE 0 e (bt s (p+2))+id (bt s (p+3))=d at*
   by_cases hd:0≤d∧d<10
   ·rw[if_pos hd]
    simp[D3,hd]
    omega
   ·rw[if_neg hd]
    have hd':(decide (0≤d)&&decide (d<10))=false:=by simpa using hd
    simp[hd']
  ·rw[if_neg h45] at hok
   simp at hok
   exact absurd hok h46
end Go.Proofs.YthlhbjnkohinmaaGreat
