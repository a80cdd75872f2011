import Derived.Test.YthlhbjnkohinmaaGreatP25
import Derived.Test.YthlhbjnkohinmaaGreatP18
import Derived.Test.YthlhbjnkohinmaaGreatP19
import Derived.Deep.RegionHeld3
namespace Go.Proofs.YthlhbjnkohinmaaGreat
set_option maxRecDepth 100000
set_option maxHeartbeats 8000000
open Go.RowKit
def cC (wt:Nat→Int) (l:List In):List Value:=l.flatMap fun i=>aF (wt i.rule) i
theorem jH (wt:Nat→Int) (l m:List In):cC wt (l++m)=cC wt l++cC wt m:=by simp[cC]
theorem qg (wt:Nat→Int) (i:In):cC wt [i]=aF (wt i.rule) i:=by simp[cC]
theorem ot {w w':World} {base:Nat} {e:TypeId} {size:Nat} {v:Value} {n:Nat} {xs:List Value} {row:Option Nat} (h:w.ownsRow base e size v n xs) (hg:w.grownBy w' row)
  (hne:∀ g,v.ownBlock=some g→row≠some g):w'.ownsRow base e size v n xs:=by
 obtain⟨h1,h2⟩:=h
 refine⟨h1,?_⟩
 rcases h2 with h2|⟨g,cap,cur,rfl,hb,hh,h3⟩
 ·exact .inl h2
 ·exact .inr ⟨g,cap,cur,rfl,hb,(hg.block g (lt_of_block hh) (fun e=>hne g rfl e.symm)).trans hh,h3⟩
def jv (s:ByteArray) (F:List au) (R:List ax) (fd:In→Bool) (k:Nat):List In:=(bz 0 s F R k).filter fun i=>!fd i
def ka (s:ByteArray) (F:List au) (R:List ax) (fd:In→Bool) (k:Nat) (IR:List In) (j:Nat):List In:=jv s F R fd k++(IR.take j).filter fun i=>!fd i
theorem uA (s:ByteArray) (F:List au) (R:List ax) (fd:In→Bool) (k:Nat) (IR:List In):ka s F R fd k IR 0=jv s F R fd k:=by simp[ka]
theorem vW (s:ByteArray) (F:List au) (R:List ax) (fd:In→Bool) (k:Nat) (IR:List In) (j:Nat) (hj:j<IR.length):ka s F R fd k IR (j+1)=ka s F R fd k IR j++(if fd IR[j] then [] else [IR[j]]):=by
 unfold ka
 rw[ku _ _ _ hj,List.append_assoc]
 congr 2
 cases fd IR[j] <;> rfl
theorem yX (s:ByteArray) (F:List au) (R:List ax) (fd:In→Bool) (k:Nat) (hk:k<R.length):ka s F R fd k (dz 0 s F k R[k].2.1) (dz 0 s F k R[k].2.1).length=jv s F R fd (k+1):=by
 unfold ka jv
 rw[List.take_length,fW,List.filter_append]
 simp[List.getD,List.getElem?_eq_getElem hk]
structure lV (s:ByteArray) (r:ax):Prop where
 conds:∀ p∈r.2.1,b7 s p=true
 pats:bL s r.2.1≤3
 len:r.2.1.length≤400
theorem mR {s:ByteArray} {F:List au} (hF:F.length≤60) (k:Nat) {r:ax} (h:lV s r):(dz 0 s F k r.2.1).length≤216000:=by
 rw[←jE]
 exact sE hF k h.conds h.pats _ (Nat.le_refl _)
theorem iE {s:ByteArray} {F:List au} (hF:F.length≤60) (k:Nat) {r:ax} (h:lV s r):∀ i∈dz 0 s F k r.2.1,i.facts.length≤3∧i.rule=k:=by
 rw[←jE]
 intro i hi
 have h1:=(jP hF k h.conds _ (Nat.le_refl _)).2 i hi
 have h2:=kt s r.2.1 r.2.1.length
 exact⟨by have:=h.pats;omega,h1.2⟩
theorem kX {s:ByteArray} {F:List au} (hF:F.length≤60) {R:List ax} (hR:∀ r∈R,lV s r):∀ k,k≤R.length→(bz 0 s F R k).length≤k*216000
 |0,_=>by simp[bz]
 |k+1,hk=>by
  have hlt:k<R.length:=by omega
  have h1:=kX hF hR k (by omega)
  have h2:=mR hF k (hR _ (List.getElem_mem hlt))
  have e:R.getD k (0,[],[])=R[k]:=by simp[List.getD,List.getElem?_eq_getElem hlt]
  rw[fW,e,List.length_append]
  omega
theorem FJ {s:ByteArray} {F:List au} (hF:F.length≤60) {R:List ax} (hR:∀ r∈R,lV s r) (hR9:R.length≤9) (fd:In→Bool) (k:Nat) (hk:k<R.length) (j:Nat):(ka s F R fd k (dz 0 s F k R[k].2.1) j).length≤2160000:=by
 unfold ka jv
 have h1:=kX hF hR k (by omega)
 have h2:=mR hF k (hR _ (List.getElem_mem hk))
 have h3:=List.length_filter_le (fun i=>!fd i) (bz 0 s F R k)
 have h4:=List.length_filter_le (fun i=>!fd i) ((dz 0 s F k R[k].2.1).take j)
 have h5:=List.length_take_le' j (dz 0 s F k R[k].2.1)
 rw[List.length_append]
 omega
theorem xA (s:ByteArray) (F:List au) (R:List ax) (ra fa:Option Addr) (rc fc B B2 x o:Nat) (fd:In→Bool) (w:World) (hR:∀ r∈R,lV s r) (hR9:R.length≤9)
  (hrow:bQ w B s (.slice ra R.length rc) R) (hFl:F.length≤60) (hfr:w.ownsRow B2 114 4 (.slice fa F.length fc) F.length (bF F))
  (HHAS:Hid (∀ (k:Nat) (hk:k<R.length) (i:In) (W:World),i∈dz 0 s F k R[k].2.1→w.grownBy W none→Calls Tryz.prog 89 #[.pointer (some ⟨x,o,none⟩),.agg (aF (eh s R k) i).toArray] W fun e w'=>e=.returned (.bool (fd i))∧W.grownBy w' none)) :
  Calls Tryz.prog 60 #[.slice ra R.length rc,.slice fa F.length fc,.pointer (some ⟨x,o,none⟩)] w fun e w'=>∃ v,e=.returned v∧w'.ownsRow w.heap.size 176 24 v (jv s F R fd R.length).length (cC (eh s R) (jv s F R fd R.length))∧w.grownBy w' none:=by
 obtain⟨i0,hi0,hz0,hz1,hz2⟩:=info_parts Tryz.infoI
 obtain⟨xs0,hrow1,hpar⟩:=hrow
 have HROW:=af hrow1
 have HPAR:=af hpar
 have HFR:=af hfr
 have HR:=af hR
 clear hrow1 hpar hfr hR
 go_enter Tryz.func60,Tryz.ntmps60
 go_wp2_with fail
 go_loopw [7,15] (fun t i wr=>∃ k:Nat,k≤R.length∧i=.int .i64 k∧wr.ownsRow w.heap.size 176 24 t (jv s F R fd k).length (cC (eh s R) (jv s F R fd k))∧w.grownBy wr none) (fun _ i _=>R.length - (intOf i).toNat)
 case atStart=>exact⟨0,by omega,rfl,World.ownsRow_nil _ _ _ _,ag _ _⟩
 case round=>
  obtain⟨k,hk,rfl,hown,hg⟩:=hrel
  have HG:=af hg
  have HOW:=af hown
  by_cases hlt:k<R.length
  ·have hrw:=HR.out _ (List.getElem_mem hlt)
   obtain⟨a1,m1,c1,a2,m2,c2,x0,x1,x2,o1,o2⟩:=jT R xs0 HPAR.out k hlt
   have em1:=ar o1
   subst em1
   obtain⟨gr,hra,_,_,hgr,hrcell⟩:=aC HROW.out (by omega)
   subst hra
   obtain⟨wk,hwk⟩:∃ wk:Int,wk=bt s R[k].1 - 48:=⟨_,rfl⟩
   have hwg:eh s R k=wk:=by rw[hwk];simp[eh,List.getD,List.getElem?_eq_getElem hlt]
   have d0:=am hg (hrcell _ _ x0)
   have d1:=am hg (hrcell _ _ x1)
   have d2:=am hg (hrcell _ _ x2)
   rw[←hwk] at d0
   obtain⟨m1,hm1⟩:∃ m1,m1=R[k].2.1.length:=⟨_,rfl⟩
   rw[←hm1] at d1
   obtain⟨IR,hIR⟩:∃ IR,IR=dz 0 s F k R[k].2.1:=⟨_,rfl⟩
   have HCO:Hid (∀ W,w.grownBy W none→Calls Tryz.prog 88 #[.int .i64 k,.agg #[.int .i64 wk,.slice a1 m1 c1,.slice a2 m2 c2],.slice fa F.length fc] W fun e w'=>∃ v,e=.returned v∧w'.ownsRow W.heap.size 176 24 v IR.length (dA wk IR)∧W.grownBy w' none):=af (fun W hW=>by
    rw[hIR,hm1]
    exact lR s F k R[k].2.1 wk a1 a2 fa c1 m2 c2 fc B B2 W hrw.conds hrw.pats hrw.len (aq o1 hW (fun g hg=>by cases hg)) hFl (aq HFR.out hW (fun g hg=>by cases hg)))
   have HHK:=af (HHAS.out k hlt)
   rw[←hIR,hwg] at HHK
   have HIRL:IR.length≤216000:=by rw[hIR];exact mR hFl k hrw
   have HIRR:Hid (∀ i∈IR,i.rule=k):=af (by rw[hIR];exact fun i hi=>(iE hFl k hrw i hi).2)
   have HJS:=af (vW s F R fd k IR)
   have HJA:Hid (ka s F R fd k IR IR.length=jv s F R fd (k+1)):=af (by rw[hIR];exact yX s F R fd k hlt)
   have HJL:Hid (∀ j,(ka s F R fd k IR j).length≤2160000):=af (fun j=>by rw[hIR];exact FJ hFl HR.out hR9 fd k hlt j)
   have hsz:=hg.size
   have hne:gr≠wr.heap.size:=by omega
   have hgl:gr<wr.heap.size:=by omega
   obtain⟨a,m,cc,rfl⟩:=an hown
   have em:=ar hown
   subst em
   have HST:Hid (∀ W,wr.grownBy W none→W.ownsRow w.heap.size 176 24 (.slice a (jv s F R fd k).length cc) (ka s F R fd k IR 0).length (cC (eh s R) (ka s F R fd k IR 0))):=af (fun W hW=>by
    rw[uA]
    exact aq HOW.out hW (fun g hg=>by cases hg))
   have HSL:Hid (∀ g,(Value.slice a (jv s F R fd k).length cc).ownBlock=some g→g<wr.heap.size):=af (fun g hg=>(HOW.out.lt g hg).2)
   have HWGT:=af hwg
   obtain⟨n0,hn0⟩:∃ n0,n0=(jv s F R fd k).length:=⟨_,rfl⟩
   rw[←hn0] at HST HSL ⊢
   clear hn0 hIR hm1 hwk hwg x0 x1 x2 o1 o2 hrcell hrw hown hg HOW
   go_wp2_with fail
   go_at_call 88
   refine (HCO.out _ (ae HG.out (ab (ag _ _) _))).mono ?_
   rintro e w1 ⟨ov,rfl,hov,hg1⟩
   have HW1:Hid (wr.grownBy w1 none):=af (ae (ab (ag _ _) _) hg1)
   obtain⟨oa,om,oc,rfl⟩:=an hov
   have eom:=ar hov
   subst eom
   have HOV:=af hov
   have hobs:∀ g,(Value.slice oa IR.length oc).ownBlock=some g→wr.heap.size<g∧g<w1.heap.size:=fun g hgg=>by
    have:=hov.lt g hgg
    simp at this
    omega
   have HOBS:=af hobs
   have hszw:=HW1.out.size
   clear hov hg1 hobs HCO
   go_wp2_with fail
   go_loopw [7,26] (fun t i wr2=>∃ j:Nat,j≤IR.length∧i=.int .i64 j∧wr2.ownsRow w.heap.size 176 24 t (ka s F R fd k IR j).length (cC (eh s R) (ka s F R fd k IR j))∧w.grownBy wr2 none∧wr2.ownsRow 0 176 24 (.slice oa IR.length oc) IR.length (dA wk IR)∧w1.heap.size≤wr2.heap.size∧(∀ g,(Value.slice oa IR.length oc).ownBlock=some g→t.ownBlock≠some g)) (fun _ i _=>IR.length - (intOf i).toNat)
   case atStart=>exact⟨0,by omega,rfl,HST.out _ HW1.out,ae HG.out HW1.out,bO HOV.out (by omega),Nat.le_refl _,fun g hg1 hg2=>by
    have q1:=(HOBS.out g hg1).1
    have q2:=HSL.out g hg2
    omega⟩
   case round=>
    rename World=>wr2
    obtain⟨j,hj,rfl,hown,hg2,hor,hsw,hnb⟩:=hrel
    have HG2:=af hg2
    have HOW2:=af hown
    have HNB:=af hnb
    have HOR:=af hor
    obtain⟨ta,tm,tc,rfl⟩:=an hown
    have em2:=ar hown
    subst em2
    by_cases hltj:j<IR.length
    ·obtain⟨go,hoa,_,_,hgol,hocell⟩:=aC hor (by omega)
     subst hoa
     obtain⟨L,hL⟩:∃ L,L=aF wk IR[j]:=⟨_,rfl⟩
     have HRG:Hid (wr2.rangeAt go (j*24) L):=af (by rw[hL];exact eU (eE wk) hocell hltj)
     have hLl:L.length=24:=by rw[hL];rfl
     have HIL:Hid ((Tryz.prog.info? 176).map (·.size)=some L.length):=af (by rw[hLl];exact bD)
     have HIZ:Hid ((Tryz.prog.info? 176).map (fun i=>(i.zero,i.size))=some (some (.agg #[.int .i64 0,.int .i64 0,.int .i64 0,.int .i64 0,.int .i64 0,.int .i64 0,.int .i64 0,.int .i64 0,.int .i64 0,.int .i64 0,.int .i64 0,.int .i64 0,.int .i64 0,.int .i64 0,.int .i64 0,.int .i64 0,.bool false,.bool false,.bool false,.bool false,.int .i64 0,.int .i64 0,.int .i64 0,.int .i64 0]),L.length)):=af (by rw[hLl];kernel_rfl)
     have HON:Hid (∀ u∈L,u.oneCell'=true):=af (by rw[hL];exact cm _ _)
     have HONA:Hid (L.toArray.all (·.oneCell')=true):=af (all_oneCell_toArray HON.out)
     have HRL:Hid ((wr2.alloc (.cells L.toArray 176)).rangeAt wr2.heap.size 0 L):=af (aE (heap_alloc_new wr2 _) rfl)
     have HCA:=af (fun W=>HHK.out IR[j] W (List.getElem_mem hltj))
     rw[←hL] at HCA
     have HSJ:=af (HJS.out j hltj)
     have hlen:=HJL.out j
     have hsz2:=hg2.size
     have HLT:=af (fun g hg=>(HOW2.out.lt g hg).1)
     have HOWG:Hid (∀ W,wr2.grownBy W none→W.ownsRow w.heap.size 176 24 (.slice ta (ka s F R fd k IR j).length tc) (ka s F R fd k IR j).length (cC (eh s R) (ka s F R fd k IR j))):=af (fun W hW=>aq HOW2.out hW (fun g hg=>by cases hg))
     have HORG:Hid (∀ W,wr2.grownBy W none→W.ownsRow 0 176 24 (.slice (some ⟨go,0,none⟩) IR.length oc) IR.length (dA wk IR)):=af (fun W hW=>aq HOR.out hW (fun g hg=>by cases hg))
     obtain⟨ok,hok⟩:∃ ok,ok=fd IR[j]:=⟨_,rfl⟩
     rw[←hok] at HCA HSJ
     have HFIN:Hid (ok=false→∀ (w3:World) (v':Value),w3.ownsRow w.heap.size 176 24 v' ((ka s F R fd k IR j).length+1) (cC (eh s R) (ka s F R fd k IR j)++L)→w3.ownsRow w.heap.size 176 24 v' (ka s F R fd k IR (j+1)).length (cC (eh s R) (ka s F R fd k IR (j+1)))):=af (fun e w3 v' h=>by
      rw[HSJ.out,e,if_neg (by simp),jH,qg,List.length_append,HIRR.out _ (List.getElem_mem hltj),HWGT.out,←hL]
      exact h)
     have HSKIP:Hid (ok=true→ka s F R fd k IR (j+1)=ka s F R fd k IR j):=af (fun e=>by rw[HSJ.out,e];simp)
     obtain⟨nl,hnl⟩:∃ nl,nl=(ka s F R fd k IR j).length:=⟨_,rfl⟩
     obtain⟨xs,hxs⟩:∃ xs,xs=cC (eh s R) (ka s F R fd k IR j):=⟨_,rfl⟩
     rw[←hnl] at HFIN HOWG HOW2 HLT HNB hlen ⊢
     rw[←hxs] at HFIN HOWG HOW2
     have HNL:=af hnl
     have HXS:=af hxs
     have hneo:go≠wr2.heap.size:=by omega
     clear hnl hxs HSJ hL hok hown hg2 hor hnb hocell HHK HJS HJL
     go_wp2_with (first
      |(refine wpList_load_mid rfl 176 (.tmp 28) rfl go (j*24) rfl L _ HRG.out Tryz.underlying176 rfl HIL.out ?_)
      |(refine ay rfl 176 (.tmp 12) (.tmp 29) rfl _ L rfl rfl hLl.symm HIL.out HONA.out ?_)
      |(refine wpList_load_mid rfl 176 (.tmp 12) rfl wr2.heap.size 0 rfl L _ HRL.out Tryz.underlying176 rfl HIL.out ?_))
     go_at_call 89
     refine (HCA.out _ (ae HG2.out (ab (ag _ _) _))).mono ?_
     rintro e w2 ⟨rfl,hg3⟩
     have HG3:=af (ae (ab (ag wr2 none) (.cells L.toArray 176)) hg3)
     have HRL2:Hid (w2.rangeAt wr2.heap.size 0 L):=af (aE ((hg3.block _ (lt_of_block (heap_alloc_new wr2 _)) (by simp)).trans (heap_alloc_new wr2 _)) rfl)
     have how1:=HOWG.out _ (ab HG3.out (.cells L.toArray 176))
     have hszr:wr2.heap.size≤w2.heap.size:=HG3.out.size
     clear hg3 HRG HRL HCA
     cases ok with
     |false=>
      have HFI:=af (HFIN.out rfl)
      clear HFIN HSKIP
      go_wp2_with (first
       |(refine wpList_load_mid rfl 176 (.tmp 12) rfl wr2.heap.size 0 rfl L _ HRL2.out Tryz.underlying176 rfl HIL.out ?_)
       |(refine bp rfl 125 176 (.tmp 35) rfl _ L rfl Tryz.underlying125 HIZ.out (by omega) (by omega) ?_)
       |(at_builtin;refine wpList_append_own_at _ rfl (.tmp 34) (.tmp 36) 125 rfl (w.heap.size) 176 i0 (.agg #[.int .i64 0,.int .i64 0,.int .i64 0,.int .i64 0,.int .i64 0,.int .i64 0,.int .i64 0,.int .i64 0,.int .i64 0,.int .i64 0,.int .i64 0,.int .i64 0,.int .i64 0,.int .i64 0,.int .i64 0,.int .i64 0,.bool false,.bool false,.bool false,.bool false,.int .i64 0,.int .i64 0,.int .i64 0,.int .i64 0]) 24 168 Tryz.underlying125 hi0 hz0 hz1 hz2 rfl (by decide) _ _ _ rfl how1 _ 1 1 L rfl (by omega) (fun j u hj=>bj hj) HON.out (by unfold maxLen;omega) (by omega) (by simp;omega) ?_))
      intro v' w3 hown3 hg3 _ hpl
      have HO3:=af (HFI.out _ _ hown3)
      have HGR3:Hid (w.grownBy w3 none):=af (aK (ae HG2.out (ab HG3.out _)) hg3 HLT.out)
      have HOR3:Hid (w3.ownsRow 0 176 24 (.slice (some ⟨go,0,none⟩) IR.length oc) IR.length (dA wk IR)):=af (ot (HORG.out _ (ab HG3.out _)) hg3 (fun g hg e=>HNB.out g hg e))
      have HS3:Hid (w1.heap.size≤w3.heap.size):=af (by have:=hg3.size;simp at this;omega)
      have HN3:Hid (∀ g,(Value.slice (some ⟨go,0,none⟩) IR.length oc).ownBlock=some g→v'.ownBlock≠some g):=af (fun g hg=>by
       rcases hpl with h|h
       ·rw[h];exact HNB.out g hg
       ·rw[h]
        have:=(HOBS.out g hg).2
        simp
        omega)
      clear hown3 hg3 hpl
      go_wp2_with fail
      go_roundw
      case rel=>exact⟨j+1,by omega,by go_num,HO3.out,HGR3.out,HOR3.out,HS3.out,HN3.out⟩
      case measure=>simp[intOf];omega
     |true=>
      have HSK:=af (HSKIP.out rfl)
      clear HFIN HSKIP how1
      go_wp2_with fail
      go_roundw
      case rel=>exact⟨j+1,by omega,by go_num,by rw[HSK.out,←HNL.out,←HXS.out];exact HOWG.out _ HG3.out,ae HG2.out HG3.out,HORG.out _ HG3.out,by omega,HNB.out⟩
      case measure=>simp[intOf];omega
    ·have ej:j=IR.length:=by omega
     subst ej
     have HO2:Hid (wr2.ownsRow w.heap.size 176 24 (.slice ta (ka s F R fd k IR IR.length).length tc) (jv s F R fd (k+1)).length (cC (eh s R) (jv s F R fd (k+1)))):=af (by
      rw[←HJA.out]
      exact HOW2.out)
     clear hown hg2 hor hnb HHK HJS HJL HOW2
     go_wp2_with fail
     go_roundw
     case rel=>exact⟨k+1,by omega,by go_num,HO2.out,HG2.out⟩
     case measure=>simp[intOf];omega
  ·have hkl:k=R.length:=by omega
   subst hkl
   clear hg hown
   go_wp2_with fail
   go_ret
   exact⟨_,rfl,HOW.out,HG.out⟩
theorem pm {P:Program} (w:World) (t e:TypeId) (ad:Option Addr) (n c i sz:Nat) (hu:P.underlying t=some (.slice e)) (hi:(P.info? e).map (·.size)=some sz) (h1:i≤n) :
  (Instr.sliceAt t (.slice ad n c) (some (.int .i64 i)) none none).run P w=.ok (.slice (if c=i then ad else ad.map (·.add (i*sz))) (n - i) (c - i)) w:=by
 cases hq:P.info? e with
 |none=>simp[hq] at hi
 |some d=>
  simp[hq] at hi
  simp[Instr.sliceAt,Instr.slice,Instr.sliceBounds,Instr.sliceBound,underlying,sizeOf,typeInfo,hu,hq,hi,asIntOf]
  intro h
  omega
theorem dX {P:Program} {ops:Array Oper} {rest:List Oper} {op:Oper} {a:Act} {w:World} {Q:Exit→Act→World→Prop} (hgd:op.guard=none) (t e:TypeId) (x y:Operand) (ho:op.op=.slice t x (some y) none none)
  (ad:Option Addr) (n c i sz:Nat) (hx:a.eval x=.slice ad n c) (hy:a.eval y=.int .i64 i) (h1:i≤n) (hu:P.underlying t=some (.slice e)) (hi:(P.info? e).map (·.size)=some sz)
  (h:wpList P ops Q rest (a.put op.dst (.slice (if c=i then ad else ad.map (·.add (i*sz))) (n - i) (c - i))) w):wpList P ops Q (op::rest) a w:=
 wpList_plain hgd fun _ hK=>by
  unfold Oper.wp execOp
  have:=pm (P:=P) w t e ad n c i sz hu hi h1
  simp only[ho,hx,hy,Option.map_some,Option.map_none,Sem.run_bind,Sem.run_pure,this,Result.andThen_ok]
  exact hK _ _ h
def iZ (wt:Nat→Int) (a b:In):Bool:=Dm (wt a.rule) (b9 a.facts) (wt b.rule) (b9 b.facts)
theorem s6 (wt:Nat→Int) {w:World} {g o:Nat} {l:List In} (h:w.rangeAt g o (cC wt l)) {k:Nat} (hk:k<l.length):w.rangeAt g (o+k*24) (aF (wt l[k].rule) l[k]):=fun j v hv=>by
 have:=h _ v (s7 (f:=fun i:In=>aF (wt i.rule) i) (m:=24) (fun _=>rfl) l k hk j v hv)
 rw[←Nat.add_assoc] at this
 exact this
theorem de {w w':World} {g o:Nat} {cs:List Value} (h:w.rangeAt g o cs) (hg:w.grownBy w' none):w'.rangeAt g o cs:=fun j v hv=>am hg (h j v hv)
theorem kV (wt:Nat→Int):∀ l:List In,(cC wt l).length=l.length*24
 |[]=>rfl
 |i::l=>by
  have:=kV wt l
  unfold cC at this ⊢
  rw[List.flatMap_cons,List.length_append,this,eE,List.length_cons,Nat.add_mul]
  omega
theorem rE (wt:Nat→Int):∀ (l:List In) (p:Nat),(cC wt l).drop (p*24)=cC wt (l.drop p)
 |l,0=>by simp
 |[],p+1=>by simp[cC]
 |i::l,p+1=>by
  have:=rE wt l p
  unfold cC at this ⊢
  rw[List.flatMap_cons,List.drop_succ_cons,←this,Nat.add_mul,List.drop_append,eE,show p*24+1*24 - 24=p*24 by omega,List.drop_eq_nil_of_le (by rw[eE];omega),List.nil_append]
theorem r9 (wt:Nat→Int) (l:List In):∀ u∈cC wt l,u.oneCell'=true:=by
 intro u hu
 obtain⟨i,_,hi⟩:=List.mem_flatMap.mp hu
 exact cm _ _ u hi
theorem tv (wt:Nat→Int) {w:World} {g o c:Nat} {l:List In} (h:w.rangeAt g o (cC wt l)) (hc:l.length≤c) {p:Nat} (hp:p≤l.length):∃ A,(if c=p then some (⟨g,o,none⟩:Addr) else (some (⟨g,o,none⟩:Addr)).map (·.add (p*24)))=some A∧∀ j u,(cC wt (l.drop p))[j]?=some u→w.cell? (A.add j)=some u:=by
 have hadd:∀ (b f n:Nat),(⟨b,f,none⟩:Addr).add n=⟨b,f+n,none⟩:=fun b f n=>by unfold Addr.add;split <;> simp_all
 by_cases e:c=p
 ·rw[if_pos e]
  refine⟨_,rfl,fun j u hu=>?_⟩
  rw[List.drop_eq_nil_of_le (by omega)] at hu
  simp[cC] at hu
 ·rw[if_neg e]
  refine⟨_,rfl,fun j u hu=>?_⟩
  rw[←rE,List.getElem?_drop] at hu
  show w.cell? ((Addr.add ⟨g,o,none⟩ (p*24)).add j)=some u
  rw[hadd,hadd,Nat.add_assoc]
  exact h _ u hu
theorem uE (wt:Nat→Int) (l r:List In) (gl ol cl gr og cr:Nat) (w:World) (hl:l.length≤2160000) (hr:r.length≤2160000) (hcl:l.length≤cl) (hcr:r.length≤cr) (_hbl:gl<w.heap.size) (_hbr:gr<w.heap.size)
  (hL:w.rangeAt gl ol (cC wt l)) (hR:w.rangeAt gr og (cC wt r)) :
  Calls Tryz.prog 90 #[.slice (some ⟨gl,ol,none⟩) l.length cl,.slice (some ⟨gr,og,none⟩) r.length cr] w fun e w'=>∃ v,e=.returned v∧w'.ownsRow w.heap.size 176 24 v (kH (iZ wt) l r).length (cC wt (kH (iZ wt) l r))∧w.grownBy w' none:=by
 obtain⟨i0,hi0,hz0,hz1,hz2⟩:=info_parts Tryz.infoI
 have HL:=af hL
 have HR:=af hR
 clear hL hR
 go_enter Tryz.func90,Tryz.ntmps90
 go_wp2_with fail
 go_loopw [5,6,7] (fun t il ir wr=>∃ (p q:Nat) (out:List In),p≤l.length∧q≤r.length∧il=.int .i64 p∧ir=.int .i64 q∧out++kH (iZ wt) (l.drop p) (r.drop q)=kH (iZ wt) l r∧out.length=p+q∧wr.ownsRow w.heap.size 176 24 t out.length (cC wt out)∧w.grownBy wr none) (fun _ il ir _=>l.length+r.length - ((intOf il).toNat+(intOf ir).toNat))
 case atStart=>exact⟨0,0,[],by omega,by omega,rfl,rfl,by simp,rfl,World.ownsRow_nil _ _ _ _,ag _ _⟩
 case round=>
  obtain⟨p,q,out,hp,hq,rfl,rfl,hout,hol,hown,hg⟩:=hrel
  have HG:=af hg
  have HOW:=af hown
  have HOUT:=af hout
  have hsz:=hg.size
  obtain⟨a,m,cc,rfl⟩:=an hown
  have em:=ar hown
  subst em
  have HLT:=af (fun g hg=>(HOW.out.lt g hg).1)
  have HOWG:Hid (∀ W,wr.grownBy W none→W.ownsRow w.heap.size 176 24 (.slice a out.length cc) out.length (cC wt out)):=af (fun W hW=>aq HOW.out hW (fun g hg=>by cases hg))
  by_cases hboth:p<l.length∧q<r.length
  ·obtain⟨hpl,hqr⟩:=hboth
   obtain⟨AL,hAL⟩:∃ AL,AL=aF (wt l[p].rule) l[p]:=⟨_,rfl⟩
   obtain⟨BR,hBR⟩:∃ BR,BR=aF (wt r[q].rule) r[q]:=⟨_,rfl⟩
   have hALl:AL.length=24:=by rw[hAL];rfl
   have hBRl:BR.length=24:=by rw[hBR];rfl
   have HRAL:Hid (wr.rangeAt gl (ol+p*24) AL):=af (by rw[hAL];exact de (s6 wt HL.out hpl) hg)
   have HRBR:Hid (wr.rangeAt gr (og+q*24) BR):=af (by rw[hBR];exact de (s6 wt HR.out hqr) hg)
   have HIAL:Hid ((Tryz.prog.info? 176).map (·.size)=some AL.length):=af (by rw[hALl];exact bD)
   have HIBR:Hid ((Tryz.prog.info? 176).map (·.size)=some BR.length):=af (by rw[hBRl];exact bD)
   have HZAL:Hid ((Tryz.prog.info? 176).map (fun i=>(i.zero,i.size))=some (some (.agg #[.int .i64 0,.int .i64 0,.int .i64 0,.int .i64 0,.int .i64 0,.int .i64 0,.int .i64 0,.int .i64 0,.int .i64 0,.int .i64 0,.int .i64 0,.int .i64 0,.int .i64 0,.int .i64 0,.int .i64 0,.int .i64 0,.bool false,.bool false,.bool false,.bool false,.int .i64 0,.int .i64 0,.int .i64 0,.int .i64 0]),AL.length)):=af (by rw[hALl];kernel_rfl)
   have HZBR:Hid ((Tryz.prog.info? 176).map (fun i=>(i.zero,i.size))=some (some (.agg #[.int .i64 0,.int .i64 0,.int .i64 0,.int .i64 0,.int .i64 0,.int .i64 0,.int .i64 0,.int .i64 0,.int .i64 0,.int .i64 0,.int .i64 0,.int .i64 0,.int .i64 0,.int .i64 0,.int .i64 0,.int .i64 0,.bool false,.bool false,.bool false,.bool false,.int .i64 0,.int .i64 0,.int .i64 0,.int .i64 0]),BR.length)):=af (by rw[hBRl];kernel_rfl)
   have HOAL:Hid (∀ u∈AL,u.oneCell'=true):=af (by rw[hAL];exact cm _ _)
   have HOBR:Hid (∀ u∈BR,u.oneCell'=true):=af (by rw[hBR];exact cm _ _)
   have HAH:Hid (∀ W,Calls Tryz.prog 114 #[.agg BR.toArray,.agg AL.toArray] W fun e w'=>e=.returned (.bool (iZ wt r[q] l[p]))∧W.grownBy w' none):=af (fun W=>by
    rw[hAL,hBR]
    exact pT _ _ r[q] l[p] W)
   have HM:Hid (kH (iZ wt) (l.drop p) (r.drop q)=if iZ wt r[q] l[p] then r[q]::kH (iZ wt) (l.drop p) (r.drop (q+1)) else l[p]::kH (iZ wt) (l.drop (p+1)) (r.drop q)):=af (by
    rw[List.drop_eq_getElem_cons hpl,List.drop_eq_getElem_cons hqr,kH])
   obtain⟨ok,hok⟩:∃ ok,ok=iZ wt r[q] l[p]:=⟨_,rfl⟩
   rw[←hok] at HAH HM
   have HNR:Hid (ok=true→(out++[r[q]])++kH (iZ wt) (l.drop p) (r.drop (q+1))=kH (iZ wt) l r):=af (fun e=>by
    rw[←HOUT.out,HM.out,if_pos e]
    simp)
   have HNL:Hid (ok=false→(out++[l[p]])++kH (iZ wt) (l.drop (p+1)) (r.drop q)=kH (iZ wt) l r):=af (fun e=>by
    rw[←HOUT.out,HM.out,if_neg (by simp[e])]
    simp)
   have HWR:Hid (∀ (w3:World) (v':Value),w3.ownsRow w.heap.size 176 24 v' (out.length+1) (cC wt out++BR)→w3.ownsRow w.heap.size 176 24 v' (out++[r[q]]).length (cC wt (out++[r[q]]))):=af (fun w3 v' h=>by
    rw[jH,qg,List.length_append,←hBR]
    exact h)
   have HWL:Hid (∀ (w3:World) (v':Value),w3.ownsRow w.heap.size 176 24 v' (out.length+1) (cC wt out++AL)→w3.ownsRow w.heap.size 176 24 v' (out++[l[p]]).length (cC wt (out++[l[p]]))):=af (fun w3 v' h=>by
    rw[jH,qg,List.length_append,←hAL]
    exact h)
   obtain⟨nl,hnl⟩:∃ nl,nl=out.length:=⟨_,rfl⟩
   obtain⟨xs,hxs⟩:∃ xs,xs=cC wt out:=⟨_,rfl⟩
   rw[←hnl] at HOWG HOW HLT HWR HWL hol ⊢
   rw[←hxs] at HOWG HOW HWR HWL
   have HNLN:=af hnl
   have HOL:=af hol
   have hnb:nl≤4320000:=by omega
   clear hol
   have p1:(p:Int)<(l.length:Int):=by omega
   have q1:(q:Int)<(r.length:Int):=by omega
   have p0:(0:Int)≤(p:Int):=by omega
   have q0:(0:Int)≤(q:Int):=by omega
   clear hnl hxs hok hAL hBR hown hg hout HM HOUT
   go_wp2_with fail
   refine wp_region_held_drew (S:=fun W=>W.rangeAt gr (og+q*24) BR∧W.rangeAt gl (ol+p*24) AL) (by kernel_rfl) ⟨HRBR.out,HRAL.out⟩ (fun hHeld=>?_)
   refine wpAnyH_take (i:=0) (v:=.slice (some ⟨gr,og,none⟩) r.length cr) rfl (by kernel_rfl) (by kernel_rfl) (by kernel_rfl) (fun _ _ _ h=>h) (Or.inl ⟨by rfl,?_⟩) hHeld ?_
   ·intro W hSw
    go_simp
   refine wpAnyH_take (i:=1) (v:=.int .i64 q) rfl (by kernel_rfl) (by kernel_rfl) (by kernel_rfl) (fun _ _ _ h=>h) (Or.inl ⟨by rfl,?_⟩) hHeld ?_
   ·intro W hSw
    go_simp
   refine wpAnyH_take (i:=2) (v:=.pointer (some ⟨gr,og+q*24,none⟩)) rfl (by kernel_rfl) (by kernel_rfl) (by kernel_rfl) (fun _ _ _ h=>h) (Or.inl ⟨by rfl,?_⟩) hHeld ?_
   ·intro W hSw
    go_simp
   refine wpAnyH_take (i:=3) (v:=.agg BR.toArray) rfl (by kernel_rfl) (by kernel_rfl) (by kernel_rfl) (fun _ _ _ h=>h) (yieldsIf_load_mid (by rfl) 176 _ rfl gr (og+q*24) rfl BR _ (fun W hSw=>hSw.1) Tryz.underlying176 rfl HIBR.out) hHeld ?_
   refine wpAnyH_take (i:=4) (v:=.slice (some ⟨gl,ol,none⟩) l.length cl) rfl (by kernel_rfl) (by kernel_rfl) (by kernel_rfl) (fun _ _ _ h=>h) (Or.inl ⟨by rfl,?_⟩) hHeld ?_
   ·intro W hSw
    go_simp
   refine wpAnyH_take (i:=5) (v:=.int .i64 p) rfl (by kernel_rfl) (by kernel_rfl) (by kernel_rfl) (fun _ _ _ h=>h) (Or.inl ⟨by rfl,?_⟩) hHeld ?_
   ·intro W hSw
    go_simp
   refine wpAnyH_take (i:=6) (v:=.pointer (some ⟨gl,ol+p*24,none⟩)) rfl (by kernel_rfl) (by kernel_rfl) (by kernel_rfl) (fun _ _ _ h=>h) (Or.inl ⟨by rfl,?_⟩) hHeld ?_
   ·intro W hSw
    go_simp
   refine wpAnyH_take (i:=7) (v:=.agg AL.toArray) rfl (by kernel_rfl) (by kernel_rfl) (by kernel_rfl) (fun _ _ _ h=>h) (yieldsIf_load_mid (by rfl) 176 _ rfl gl (ol+p*24) rfl AL _ (fun W hSw=>hSw.2) Tryz.underlying176 rfl HIAL.out) hHeld ?_
   refine wpAnyH_ready (rs:=[8]) (by kernel_rfl) (by simp) ?_
   refine AllReadyH.cons (o:=_) rfl (fun K hK=>?_) AllReadyH.nil
   go_simp
   go_at_call 114
   refine (HAH.out _).mono ?_
   rintro e w1 ⟨rfl,hg1⟩
   have HG1:Hid (wr.grownBy w1 none):=af (cF (n:=1) hg1)
   have HRAL1:Hid (w1.rangeAt gl (ol+p*24) AL):=af (de HRAL.out HG1.out)
   have HRBR1:Hid (w1.rangeAt gr (og+q*24) BR):=af (de HRBR.out HG1.out)
   have hs1:=HG1.out.size
   clear hg1 HAH
   go_wp2_with fail
   refine hK.out _ _ ⟨HRBR1.out,HRAL1.out⟩ (fun hHeld2=>?_)
   clear hK K
   refine wpAnyH_done (by kernel_rfl) ?_ _
   clear hHeld hHeld2
   have how1BR:=HOWG.out _ (ab HG1.out (.cells BR.toArray 176))
   have how1AL:=HOWG.out _ (ab HG1.out (.cells AL.toArray 176))
   cases ok with
   |true=>
    go_wp2_with (first
     |(refine wpList_load_mid rfl 176 (.tmp 30) rfl gr (og+q*24) rfl BR _ HRBR1.out Tryz.underlying176 rfl HIBR.out ?_)
     |(refine bp rfl 125 176 (.tmp 31) rfl _ BR rfl Tryz.underlying125 HZBR.out (by omega) (by omega) ?_)
     |(at_builtin;refine wpList_append_own _ rfl (.tmp 27) (.tmp 32) 125 rfl (w.heap.size) 176 i0 (.agg #[.int .i64 0,.int .i64 0,.int .i64 0,.int .i64 0,.int .i64 0,.int .i64 0,.int .i64 0,.int .i64 0,.int .i64 0,.int .i64 0,.int .i64 0,.int .i64 0,.int .i64 0,.int .i64 0,.int .i64 0,.int .i64 0,.bool false,.bool false,.bool false,.bool false,.int .i64 0,.int .i64 0,.int .i64 0,.int .i64 0]) 24 168 Tryz.underlying125 hi0 hz0 hz1 hz2 rfl (by decide) _ _ _ rfl how1BR _ 1 1 BR rfl (by omega) (fun j u hj=>bj hj) HOBR.out (by unfold maxLen;omega) (by omega) (by simp;omega) ?_))
    intro v' w3 hown3 hg3 _
    have HO3:=af hown3
    have HG3:Hid (w.grownBy w3 none):=af (aK (ae HG.out (ab HG1.out _)) hg3 HLT.out)
    clear hown3 hg3
    go_wp2_with fail
    go_roundw
    case rel=>exact⟨p,q+1,_,by omega,by omega,rfl,by go_num,HNR.out (by first|rfl|trivial),by rw[List.length_append,←HNLN.out,HOL.out];simp;omega,HWR.out _ _ HO3.out,HG3.out⟩
    case measure=>simp[intOf];omega
   |false=>
    go_wp2_with (first
     |(refine wpList_load_mid rfl 176 (.tmp 39) rfl gl (ol+p*24) rfl AL _ HRAL1.out Tryz.underlying176 rfl HIAL.out ?_)
     |(refine bp rfl 125 176 (.tmp 40) rfl _ AL rfl Tryz.underlying125 HZAL.out (by omega) (by omega) ?_)
     |(at_builtin;refine wpList_append_own _ rfl (.tmp 36) (.tmp 41) 125 rfl (w.heap.size) 176 i0 (.agg #[.int .i64 0,.int .i64 0,.int .i64 0,.int .i64 0,.int .i64 0,.int .i64 0,.int .i64 0,.int .i64 0,.int .i64 0,.int .i64 0,.int .i64 0,.int .i64 0,.int .i64 0,.int .i64 0,.int .i64 0,.int .i64 0,.bool false,.bool false,.bool false,.bool false,.int .i64 0,.int .i64 0,.int .i64 0,.int .i64 0]) 24 168 Tryz.underlying125 hi0 hz0 hz1 hz2 rfl (by decide) _ _ _ rfl how1AL _ 1 1 AL rfl (by omega) (fun j u hj=>bj hj) HOAL.out (by unfold maxLen;omega) (by omega) (by simp;omega) ?_))
    intro v' w3 hown3 hg3 _
    have HO3:=af hown3
    have HG3:Hid (w.grownBy w3 none):=af (aK (ae HG.out (ab HG1.out _)) hg3 HLT.out)
    clear hown3 hg3
    go_wp2_with fail
    go_roundw
    case rel=>exact⟨p+1,q,_,by omega,by omega,by go_num,rfl,HNL.out (by first|rfl|trivial),by rw[List.length_append,←HNLN.out,HOL.out];simp;omega,HWL.out _ _ HO3.out,HG3.out⟩
    case measure=>simp[intOf];omega
  ·have HEND:Hid (out++l.drop p++r.drop q=kH (iZ wt) l r):=af (by
    rw[←HOUT.out]
    by_cases h1:p<l.length
    ·have h2:q=r.length:=by
      by_cases h3:q<r.length
      ·exact absurd ⟨h1,h3⟩ hboth
      ·omega
     subst h2
     rw[List.drop_length,pe]
     simp
    ·have h2:p=l.length:=by omega
     subst h2
     rw[List.drop_length]
     simp[kH])
   obtain⟨A1,hA1,hn1⟩:=tv wt (de HL.out hg) hcl hp
   obtain⟨A2,hA2,_⟩:=tv wt HR.out hcr hq
   have HTR:Hid (∀ W,w.grownBy W none→∀ j u,(cC wt (r.drop q))[j]?=some u→W.cell? (A2.add j)=some u):=af (fun W hW=>by
    obtain⟨A3,hA3,hn3⟩:=tv wt (de HR.out hW) hcr hq
    have:A3=A2:=by
     rw[hA2] at hA3
     exact (Option.some.inj hA3).symm
    rw[this] at hn3
    exact hn3)
   have HN1:=af hn1
   have HA1:=af hA1
   have HA2:=af hA2
   have hdl1:(cC wt (l.drop p)).length=(l.length - p)*24:=by rw[kV];simp
   have hdl2:(cC wt (r.drop q)).length=(r.length - q)*24:=by rw[kV];simp
   have HO1:=af (r9 wt (l.drop p))
   have HO2:=af (r9 wt (r.drop q))
   have HII:Hid ((Tryz.prog.info? 176).map (·.size)=some 24):=af bD
   have HFIN:Hid (∀ (w4:World) (v:Value),w4.ownsRow w.heap.size 176 24 v (out.length+(l.length - p)+(r.length - q)) (cC wt out++(cC wt (l.drop p)++cC wt (r.drop q)))→w4.ownsRow w.heap.size 176 24 v (kH (iZ wt) l r).length (cC wt (kH (iZ wt) l r))):=af (fun w4 v h=>by
    rw[←HEND.out,jH,jH,List.length_append,List.length_append,List.length_drop,List.length_drop,List.append_assoc]
    exact h)
   obtain⟨X1,hX1⟩:∃ X1,X1=cC wt (l.drop p):=⟨_,rfl⟩
   obtain⟨X2,hX2⟩:∃ X2,X2=cC wt (r.drop q):=⟨_,rfl⟩
   rw[←hX1] at HN1 hdl1 HO1 HFIN
   rw[←hX2] at HTR hdl2 HO2 HFIN
   have p0:(0:Int)≤(p:Int):=by omega
   have q0:(0:Int)≤(q:Int):=by omega
   obtain⟨nl,hnl⟩:∃ nl,nl=out.length:=⟨_,rfl⟩
   obtain⟨xs,hxs⟩:∃ xs,xs=cC wt out:=⟨_,rfl⟩
   rw[←hnl] at HOWG HOW HLT HFIN hol ⊢
   rw[←hxs] at HOWG HOW HFIN
   have hnb:nl≤4320000:=by omega
   have how0:=HOW.out
   clear hnl hxs hol
   clear hX1 hX2 hown hg hout hA1 hA2 hn1 HOUT HEND
   by_cases hpl:p<l.length
   all_goals
    have hpd:decide ((p:Int)<(l.length:Int))=decide (p<l.length):=by simp
    have hqd:decide ((q:Int)<(r.length:Int))=decide (q<r.length):=by simp
   ·have hqn:decide ((q:Int)<(r.length:Int))=false:=by
     rw[hqd]
     simp only[decide_eq_false_iff_not]
     intro h3
     exact hboth ⟨hpl,h3⟩
    have hpy:(p:Int)<(l.length:Int):=by omega
    clear hpd hqd
    go_wp2_with (first
     |(refine dX rfl 125 176 (.tmp 46) (.tmp 47) rfl _ _ _ p 24 rfl rfl (by omega) Tryz.underlying125 HII.out ?_;rw[HA1.out])
     |(at_builtin;refine wpList_append_own _ rfl (.tmp 45) (.tmp 48) 125 rfl (w.heap.size) 176 i0 (.agg #[.int .i64 0,.int .i64 0,.int .i64 0,.int .i64 0,.int .i64 0,.int .i64 0,.int .i64 0,.int .i64 0,.int .i64 0,.int .i64 0,.int .i64 0,.int .i64 0,.int .i64 0,.int .i64 0,.int .i64 0,.int .i64 0,.bool false,.bool false,.bool false,.bool false,.int .i64 0,.int .i64 0,.int .i64 0,.int .i64 0]) 24 168 Tryz.underlying125 hi0 hz0 hz1 hz2 rfl (by decide) _ _ _ rfl how0 A1 (l.length - p) _ X1 rfl hdl1 HN1.out HO1.out (by unfold maxLen;omega) (by omega) (by omega) ?_))
    intro v1 w3 hown3 hg3 _
    have HG3:Hid (w.grownBy w3 none):=af (aK HG.out hg3 HLT.out)
    have hs3:=HG3.out.size
    have HLT3:=af (fun g hg=>(hown3.lt g hg).1)
    clear hg3
    go_wp2_with (first
     |(refine dX rfl 125 176 (.tmp 51) (.tmp 52) rfl _ _ _ q 24 rfl rfl (by omega) Tryz.underlying125 HII.out ?_;rw[HA2.out])
     |(at_builtin;refine wpList_append_own _ rfl (.tmp 50) (.tmp 53) 125 rfl (w.heap.size) 176 i0 (.agg #[.int .i64 0,.int .i64 0,.int .i64 0,.int .i64 0,.int .i64 0,.int .i64 0,.int .i64 0,.int .i64 0,.int .i64 0,.int .i64 0,.int .i64 0,.int .i64 0,.int .i64 0,.int .i64 0,.int .i64 0,.int .i64 0,.bool false,.bool false,.bool false,.bool false,.int .i64 0,.int .i64 0,.int .i64 0,.int .i64 0]) 24 168 Tryz.underlying125 hi0 hz0 hz1 hz2 rfl (by decide) _ _ _ rfl hown3 A2 (r.length - q) _ X2 rfl hdl2 (HTR.out _ HG3.out) HO2.out (by unfold maxLen;omega) (by omega) (by omega) ?_))
    intro v2 w4 hown4 hg4 _
    have HO4:=af (HFIN.out _ _ hown4)
    have HG4:Hid (w.grownBy w4 none):=af (aK HG3.out hg4 HLT3.out)
    clear hown3 hown4 hg4
    go_wp2_with fail
    go_ret
    exact⟨_,rfl,HO4.out,HG4.out⟩
   ·have hpn:decide ((p:Int)<(l.length:Int))=false:=by
     rw[hpd]
     simpa using hpl
    clear hpd hqd
    go_wp2_with (first
     |(refine dX rfl 125 176 (.tmp 46) (.tmp 47) rfl _ _ _ p 24 rfl rfl (by omega) Tryz.underlying125 HII.out ?_;rw[HA1.out])
     |(at_builtin;refine wpList_append_own _ rfl (.tmp 45) (.tmp 48) 125 rfl (w.heap.size) 176 i0 (.agg #[.int .i64 0,.int .i64 0,.int .i64 0,.int .i64 0,.int .i64 0,.int .i64 0,.int .i64 0,.int .i64 0,.int .i64 0,.int .i64 0,.int .i64 0,.int .i64 0,.int .i64 0,.int .i64 0,.int .i64 0,.int .i64 0,.bool false,.bool false,.bool false,.bool false,.int .i64 0,.int .i64 0,.int .i64 0,.int .i64 0]) 24 168 Tryz.underlying125 hi0 hz0 hz1 hz2 rfl (by decide) _ _ _ rfl how0 A1 (l.length - p) _ X1 rfl hdl1 HN1.out HO1.out (by unfold maxLen;omega) (by omega) (by omega) ?_))
    intro v1 w3 hown3 hg3 _
    have HG3:Hid (w.grownBy w3 none):=af (aK HG.out hg3 HLT.out)
    have hs3:=HG3.out.size
    have HLT3:=af (fun g hg=>(hown3.lt g hg).1)
    clear hg3
    go_wp2_with (first
     |(refine dX rfl 125 176 (.tmp 51) (.tmp 52) rfl _ _ _ q 24 rfl rfl (by omega) Tryz.underlying125 HII.out ?_;rw[HA2.out])
     |(at_builtin;refine wpList_append_own _ rfl (.tmp 50) (.tmp 53) 125 rfl (w.heap.size) 176 i0 (.agg #[.int .i64 0,.int .i64 0,.int .i64 0,.int .i64 0,.int .i64 0,.int .i64 0,.int .i64 0,.int .i64 0,.int .i64 0,.int .i64 0,.int .i64 0,.int .i64 0,.int .i64 0,.int .i64 0,.int .i64 0,.int .i64 0,.bool false,.bool false,.bool false,.bool false,.int .i64 0,.int .i64 0,.int .i64 0,.int .i64 0]) 24 168 Tryz.underlying125 hi0 hz0 hz1 hz2 rfl (by decide) _ _ _ rfl hown3 A2 (r.length - q) _ X2 rfl hdl2 (HTR.out _ HG3.out) HO2.out (by unfold maxLen;omega) (by omega) (by omega) ?_))
    intro v2 w4 hown4 hg4 _
    have HO4:=af (HFIN.out _ _ hown4)
    have HG4:Hid (w.grownBy w4 none):=af (aK HG3.out hg4 HLT3.out)
    clear hown3 hown4 hg4
    go_wp2_with fail
    go_ret
    exact⟨_,rfl,HO4.out,HG4.out⟩
end Go.Proofs.YthlhbjnkohinmaaGreat
