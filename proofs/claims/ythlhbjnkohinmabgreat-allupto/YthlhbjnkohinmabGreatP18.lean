import Derived.Test.YthlhbjnkohinmabGreatP17
import Derived.Maps.AppendAt
import Derived.Test.YthlhbjnkohinmabGreatP08
namespace Go.Proofs.YthlhbjnkohinmabGreat
set_option maxRecDepth 100000
set_option maxHeartbeats 8000000
open Go.RowKit
theorem DG (O:List aw)(c t1 t2:Int)(i:In)(j:Nat)(hj:j<O.length):iE (O.take (j+1)) c t1 t2 i=iE (O.take j) c t1 t2 i++((gd i.env c t1 t2 O[j]).map fun e=>(⟨i.rule,i.facts++[O[j]],e⟩:In)).toList:=by
 unfold iE
 rw[List.take_succ_eq_append_getElem hj,List.filterMap_append]
 congr 1
theorem Bv {α β:Type}(f:α→List β)(l:List α)(k:Nat)(hk:k<l.length):(l.take (k+1)).flatMap f=(l.take k).flatMap f++f l[k]:=by
 rw[List.take_succ_eq_append_getElem hk,List.flatMap_append]
 simp
theorem Cn (F:List aw)(c t1 t2:Int)(i:In):iE (ja F (c - 97)) c t1 t2 i=iE F c t1 t2 i:=by
 unfold iE ja
 rw[List.filterMap_filter]
 congr 1
 funext q
 by_cases h:(q.1:Int) / 10=c - 97
 ·simp[h]
 ·have e:gd i.env c t1 t2 q=none:=by
   unfold gd
   rw[if_neg (fun e=>h e.symm)]
  simp[h,e]
theorem B3 (wt:Int)(l m:List In):dC wt (l++m)=dC wt l++dC wt m:=by simp[dC]
def nH (O:List aw)(c t1 t2:Int)(l:List In)(k j:Nat):List In:=(l.take k).flatMap (iE O c t1 t2)++(match l[k]? with|some i=>iE (O.take j) c t1 t2 i|none=>[])
theorem Da (O:List aw)(c t1 t2:Int)(l:List In)(k:Nat):nH O c t1 t2 l k 0=(l.take k).flatMap (iE O c t1 t2):=by
 unfold nH
 cases l[k]? <;> simp[iE]
theorem Ch (O:List aw)(c t1 t2:Int)(l:List In)(k:Nat)(hk:k<l.length):nH O c t1 t2 l k O.length=(l.take (k+1)).flatMap (iE O c t1 t2):=by
 unfold nH
 rw[List.getElem?_eq_getElem hk,Bv _ _ _ hk,List.take_length]
theorem CP (O:List aw)(c t1 t2:Int)(l:List In)(k:Nat)(hk:k<l.length)(j:Nat)(hj:j<O.length):nH O c t1 t2 l k (j+1)=nH O c t1 t2 l k j++((gd l[k].env c t1 t2 O[j]).map fun e=>(⟨l[k].rule,l[k].facts++[O[j]],e⟩:In)).toList:=by
 unfold nH
 rw[List.getElem?_eq_getElem hk]
 simp only[]
 rw[DG _ _ _ _ _ _ hj,List.append_assoc]
theorem Fi (O:List aw)(c t1 t2:Int)(l:List In)(k j:Nat)(hO:O.length≤60)(hl:l.length≤3600):(nH O c t1 t2 l k j).length≤216060:=by
 unfold nH
 have h1:=ic (m:=60) (fun i=>Nat.le_trans (lF O c t1 t2 i) hO) (l.take k)
 have h2:(l.take k).length≤3600:=Nat.le_trans (List.length_take_le' k l) hl
 rw[List.length_append]
 have h3:(match l[k]? with|some i=>iE (O.take j) c t1 t2 i|none=>[]).length≤60:=by
  cases l[k]? with
  |none=>simp
  |some i=>
   simp only[]
   have h5:=lF (O.take j) c t1 t2 i
   have h6:=List.length_take_le' j O
   omega
 omega
theorem q9 (wt:Int)(l:List In)(la:Option Addr)(lc B:Nat)(kd c g t1 t2:Int)(F:List aw)(fa:Option Addr)(fc B2:Nat)(w:World)(hll:l.length≤3600)(h3:∀ i∈l,i.facts.length<3)
  (hrow:w.ownsRow B 175 24 (.slice la l.length lc) l.length (dC wt l)) (h1:c8 t1=true) (h2:c8 t2=true) (hFl:F.length≤60) (hfr:w.ownsRow B2 114 4 (.slice fa F.length fc) F.length (bE F)) :
  Calls Tryz.prog 104 #[.slice la l.length lc,jo kd c g t1 t2,.slice fa F.length fc] w fun e w'=>∃ v,e=.returned v∧w'.ownsRow w.heap.size 175 24 v (l.flatMap (iE F c t1 t2)).length (dC wt (l.flatMap (iE F c t1 t2)))∧w.grownBy w' none:=by
 obtain⟨i0,hi0,hz0,hz1,hz2⟩:=info_parts Tryz.infoI
 obtain⟨C,hC⟩:∃ C,C=Ce kd c g t1 t2:=⟨_,rfl⟩
 have hCl:C.length=7:=by rw[hC];rfl
 have hCV:jo kd c g t1 t2=.agg C.toArray:=by rw[hC];rfl
 rw[hCV]
 obtain⟨O,hO⟩:∃ O,O=ja F (c - 97):=⟨_,rfl⟩
 have hOl:O.length≤60:=by rw[hO];exact Nat.le_trans (yG _ _) hFl
 have HCALL:Hid (∀ (k:Nat) (hk:k<l.length) (j:Nat) (hj:j<O.length) (W:World),Calls Tryz.prog 127 #[.agg (aG wt l[k]).toArray,.agg C.toArray,.agg (nV O[j]).toArray] W fun r w'=>r=.returned (qf wt l[k] c t1 t2 O[j])∧W.grownBy w' none):=af (fun k hk j hj W=>by
  rw[hC]
  exact A0 wt l[k] kd c g t1 t2 O[j] W (h3 _ (List.getElem_mem hk)) h1 h2)
 have HONP:Hid (l.flatMap (iE F c t1 t2)=l.flatMap (iE O c t1 t2)):=af (by
  rw[hO]
  congr 1
  funext i
  exact (Cn F c t1 t2 i).symm)
 rw[HONP.out]
 have HOC:Hid (∀ W,w.grownBy W none→Calls Tryz.prog 126 #[.slice fa F.length fc,.int .i64 (c - 97)] W fun e w'=>∃ v,e=.returned v∧w'.ownsRow W.heap.size 114 4 v O.length (bE O)∧W.grownBy w' none):=af (fun W hW=>by
  rw[hO]
  exact s9 F (c - 97) fa fc B2 W hFl (aq hfr hW (fun g hg=>by cases hg)))
 have HROW:=af hrow
 have HBC:Hid ((w.alloc (.cells C.toArray 205)).heap[w.heap.size]?=some (.cells C.toArray 205 (0,0))):=af (heap_alloc_new w _)
 have HIC:Hid ((Tryz.prog.info? 205).map (·.size)=some C.length):=af (by rw[hCl];exact iI)
 obtain⟨cv,hcv⟩:∃ cv:Int,cv=c - 97:=⟨_,rfl⟩
 have kc:(w.alloc (.cells C.toArray 205)).cell? ⟨w.heap.size,1,none⟩=some (.int .i64 cv):=by
  rw[cell_of_row _ _ _ _ _ _ HBC.out,hC,hcv]
  rfl
 rw[←hcv] at HOC
 clear hrow hC hCV hfr h1 h2 hO HONP hcv hFl h3
 go_enter Tryz.func104,Tryz.ntmps104
 go_wp2_with fail
 go_at_call 126
 refine (HOC.out _ (ab (ag _ _) _)).mono ?_
 rintro e WA ⟨vo,rfl,hoo,hga⟩
 have HWA:Hid (w.grownBy WA none):=af (ae (ab (ag _ _) _) hga)
 have HCA0:Hid (WA.heap[w.heap.size]?=some (.cells C.toArray 205 (0,0))):=af ((hga.block _ (lt_of_block HBC.out) (by simp)).trans HBC.out)
 obtain⟨oa,om,oc,rfl⟩:=an hoo
 have eom:=ar hoo
 subst eom
 have HOO:=af hoo
 have HRA:=af (aq HROW.out HWA.out (fun g hg=>by cases hg))
 have hcb:=lt_of_block HCA0.out
 clear hoo hga HOC HBC kc HROW
 generalize w.heap.size+1=bo at HOO
 obtain⟨cb,hcbe⟩:∃ cb,cb=w.heap.size:=⟨_,rfl⟩
 have HCBE:=af hcbe
 rw[←hcbe] at hcb HCA0 ⊢
 clear hcbe
 go_wp2_with fail
 go_loopw [8,21] (fun t i wr=>∃ k:Nat,k≤l.length∧i=.int .i64 k∧wr.ownsRow WA.heap.size 175 24 t ((l.take k).flatMap (iE O c t1 t2)).length (dC wt ((l.take k).flatMap (iE O c t1 t2)))∧WA.grownBy wr none) (fun _ i _=>l.length - (intOf i).toNat)
 case atStart=>exact⟨0,by omega,rfl,World.ownsRow_nil _ _ _ _,ag _ _⟩
 case round=>
  obtain⟨k,hk,rfl,hown,hg⟩:=hrel
  have HG:=af hg
  have HOW:=af hown
  by_cases hlt:k<l.length
  ·have how:=aq HRA.out hg (fun g hg=>by cases hg)
   obtain⟨gf,rfl,_,_,hgl,hcell⟩:=aC how (by omega)
   obtain⟨L,hL⟩:∃ L,L=aG wt l[k]:=⟨_,rfl⟩
   have HRG:Hid (wr.rangeAt gf (k*24) L):=af (by rw[hL];exact eY (eC wt) hcell hlt)
   have hLl:L.length=24:=by rw[hL];rfl
   have HIL:Hid ((Tryz.prog.info? 175).map (·.size)=some L.length):=af (by rw[hLl];exact bC)
   have HONA:Hid (L.toArray.all (·.oneCell')=true):=af (all_oneCell_toArray (by rw[hL];exact cm _ _))
   have HBN:Hid ((wr.alloc (.cells L.toArray 175)).heap[wr.heap.size]?=some (.cells L.toArray 175 (0,0))):=af (heap_alloc_new wr _)
   have HCK:=af (HCALL.out k hlt)
   rw[←hL] at HCK
   have hsz:=hg.size
   have hwl:cb<wr.heap.size:=by omega
   obtain⟨a,m,cc,rfl⟩:=an hown
   have em:=ar hown
   subst em
   have HSU:=af (CP O c t1 t2 l k hlt)
   have HNX:=af (Ch O c t1 t2 l k hlt)
   have HLEN:Hid (∀ j,(nH O c t1 t2 l k j).length≤216060):=af (fun j=>Fi O c t1 t2 l k j hOl hll)
   have HST:Hid ((wr.alloc (.cells L.toArray 175)).ownsRow WA.heap.size 175 24 (.slice a ((l.take k).flatMap (iE O c t1 t2)).length cc) (nH O c t1 t2 l k 0).length (dC wt (nH O c t1 t2 l k 0))):=af (by
    rw[Da]
    exact aq HOW.out (ab (ag wr none) _) (fun g hg=>by cases hg))
   have HSN:Hid ((Value.slice a ((l.take k).flatMap (iE O c t1 t2)).length cc).ownBlock≠some wr.heap.size):=af (fun e=>by
    have:=(HOW.out.lt _ e).2
    omega)
   obtain⟨n0,hn0⟩:∃ n0,n0=((l.take k).flatMap (iE O c t1 t2)).length:=⟨_,rfl⟩
   rw[←hn0] at HST HSN ⊢
   have HL:=af hL
   clear hn0 hL how hcell hown hg
   go_wp2_with (first
    |(refine wpList_load_mid rfl 175 (.tmp 23) rfl gf (k*24) rfl L _ HRG.out Tryz.underlying175 rfl HIL.out ?_)
    |(refine az rfl 175 (.tmp 10) (.tmp 24) rfl _ L rfl rfl hLl.symm HIL.out HONA.out ?_))
   go_loopw [8,27] (fun t i wr2=>∃ j:Nat,j≤O.length∧i=.int .i64 j∧wr2.ownsRow WA.heap.size 175 24 t (nH O c t1 t2 l k j).length (dC wt (nH O c t1 t2 l k j))∧WA.grownBy wr2 none∧wr2.heap[wr.heap.size]?=some (.cells L.toArray 175 (0,0))∧t.ownBlock≠some wr.heap.size) (fun _ i _=>O.length - (intOf i).toNat)
   case atStart=>exact⟨0,by omega,rfl,HST.out,ae HG.out (ab (ag _ _) _),HBN.out,HSN.out⟩
   case round=>
    rename World=>wr2
    obtain⟨j,hj,rfl,hown,hg2,hbl,hnb⟩:=hrel
    have HG2:=af hg2
    have HOW2:=af hown
    have HNB:=af hnb
    have hbls:=lt_of_block hbl
    obtain⟨a2,m2,c2,rfl⟩:=an hown
    have em2:=ar hown
    subst em2
    by_cases hltj:j<O.length
    ·have how2:=aq HOO.out hg2 (fun g hg=>by cases hg)
     obtain⟨go,rfl,_,_,hgol,hocell⟩:=aC how2 (by omega)
     obtain⟨Q,hQ⟩:∃ Q,Q=nV O[j]:=⟨_,rfl⟩
     have HRQ:Hid (wr2.rangeAt go (j*4) Q):=af (by rw[hQ];exact eY qV hocell hltj)
     have hQl:Q.length=4:=by rw[hQ];rfl
     have HIQ:Hid ((Tryz.prog.info? 114).map (·.size)=some Q.length):=af (by rw[hQl];exact jU)
     have HONQ:Hid (Q.toArray.all (·.oneCell')=true):=af (all_oneCell_toArray (by rw[hQ];exact mX _))
     have HRQ2:Hid ((wr2.alloc (.cells Q.toArray 114)).rangeAt wr2.heap.size 0 Q):=af (aF (heap_alloc_new wr2 _) rfl)
     have HRL2:Hid ((wr2.alloc (.cells Q.toArray 114)).rangeAt wr.heap.size 0 L):=af (aF ((Below.heap_alloc _ _ _ hbls).trans hbl) rfl)
     have hcb2:=(hg2.block _ hcb (by simp)).trans HCA0.out
     have HRC2:Hid ((wr2.alloc (.cells Q.toArray 114)).rangeAt cb 0 C):=af (aF ((Below.heap_alloc _ _ _ (lt_of_block hcb2)).trans hcb2) rfl)
     have HCJ:=af (HCK.out j hltj)
     rw[←hQ] at HCJ
     have HSJ:=af (HSU.out j hltj)
     have hlen:=HLEN.out j
     have hsz2:=hg2.size
     have HBL:=af hbl
     have HLT:=af (fun g hg=>(HOW2.out.lt g hg).1)
     have HOWG:Hid (∀ W,wr2.grownBy W none→W.ownsRow WA.heap.size 175 24 (.slice a2 (nH O c t1 t2 l k j).length c2) (nH O c t1 t2 l k j).length (dC wt (nH O c t1 t2 l k j))):=af (fun W hW=>aq HOW2.out hW (fun g hg=>by cases hg))
     have HVAL:Hid ((∃ R:List Value,R.length=24∧(∀ u∈R,u.oneCell'=true)∧qf wt l[k] c t1 t2 O[j]=.tuple #[.agg R.toArray,.bool true]∧∀ (w3:World) (v':Value),w3.ownsRow WA.heap.size 175 24 v' ((nH O c t1 t2 l k j).length+1) (dC wt (nH O c t1 t2 l k j)++R)→w3.ownsRow WA.heap.size 175 24 v' (nH O c t1 t2 l k (j+1)).length (dC wt (nH O c t1 t2 l k (j+1))))
       ∨(∃ R:List Value,R.length=24∧(∀ u∈R,u.oneCell'=true)∧qf wt l[k] c t1 t2 O[j]=.tuple #[.agg R.toArray,.bool false]∧nH O c t1 t2 l k (j+1)=nH O c t1 t2 l k j)):=af (by
      unfold qf
      cases hgp:gd l[k].env c t1 t2 O[j] with
      |none=>
       rw[hgp] at HSJ
       exact .inr ⟨aG wt l[k],rfl,cm _ _,rfl,by rw[HSJ.out];simp⟩
      |some e=>
       rw[hgp] at HSJ
       refine .inl ⟨aG wt ⟨l[k].rule,l[k].facts++[O[j]],e⟩,rfl,cm _ _,rfl,fun w3 v' h=>?_⟩
       rw[HSJ.out,B3,List.length_append]
       simpa [dC] using h)
     obtain⟨nl,hnl⟩:∃ nl,nl=(nH O c t1 t2 l k j).length:=⟨_,rfl⟩
     obtain⟨xs,hxs⟩:∃ xs,xs=dC wt (nH O c t1 t2 l k j):=⟨_,rfl⟩
     obtain⟨wv,hwv⟩:∃ wv,wv=qf wt l[k] c t1 t2 O[j]:=⟨_,rfl⟩
     rw[←hnl,←hxs,←hwv] at HVAL
     rw[←hnl] at HOWG HOW2 HLT HNB hlen ⊢
     rw[←hxs] at HOWG HOW2
     rw[←hwv] at HCJ
     have HNL:=af hnl
     have HXS:=af hxs
     have hne:go≠wr2.heap.size:=by omega
     clear hnl hxs hwv hQ hown hg2 hbl hnb how2 hocell hcb2 HCK HSU HSJ HLEN HST HSN
     go_wp2_with (first
      |(refine wpList_load_mid rfl 114 (.tmp 29) rfl go (j*4) rfl Q _ HRQ.out Tryz.underlying114 rfl HIQ.out ?_)
      |(refine az rfl 114 (.tmp 12) (.tmp 30) rfl _ Q rfl rfl hQl.symm HIQ.out HONQ.out ?_)
      |(refine wpList_load_mid rfl 175 (.tmp 10) rfl wr.heap.size 0 rfl L _ HRL2.out Tryz.underlying175 rfl HIL.out ?_)
      |(refine wpList_load_mid rfl 205 (.tmp 4) rfl cb 0 rfl C _ HRC2.out Tryz.underlying205 rfl HIC.out ?_)
      |(refine wpList_load_mid rfl 114 (.tmp 12) rfl wr2.heap.size 0 rfl Q _ HRQ2.out Tryz.underlying114 rfl HIQ.out ?_))
     go_at_call 127
     refine (HCJ.out _).mono ?_
     rintro e w1 ⟨rfl,hg1⟩
     have HG1:=af (ae (ab (ag wr2 none) (.cells Q.toArray 114)) hg1)
     have HBL2:Hid (w1.heap[wr.heap.size]?=some (.cells L.toArray 175 (0,0))):=af (by
      have h5:=(Below.heap_alloc wr2 (.cells Q.toArray 114) _ hbls).trans HBL.out
      exact (hg1.block _ (lt_of_block h5) (by simp)).trans h5)
     have hs1:=lt_of_block HBL2.out
     have hs2:WA.heap.size≤w1.heap.size:=by have:=HG1.out.size;omega
     clear hg1 HRQ HRQ2 HRL2 HRC2 HBL HCJ
     rcases HVAL.out with ⟨R,hRl,hRo,rfl,hR⟩|⟨R,hRl,hRo,rfl,hR⟩
     all_goals
      have HONL:=af hRo
      have HONR:Hid (R.toArray.all (·.oneCell')=true):=af (all_oneCell_toArray hRo)
      have HIR:Hid ((Tryz.prog.info? 175).map (·.size)=some R.length):=af (by rw[hRl];exact bC)
      have HIZ:Hid ((Tryz.prog.info? 175).map (fun i=>(i.zero,i.size))=some (some (.agg #[.int .i64 0,.int .i64 0,.int .i64 0,.int .i64 0,.int .i64 0,.int .i64 0,.int .i64 0,.int .i64 0,.int .i64 0,.int .i64 0,.int .i64 0,.int .i64 0,.int .i64 0,.int .i64 0,.int .i64 0,.int .i64 0,.bool false,.bool false,.bool false,.bool false,.int .i64 0,.int .i64 0,.int .i64 0,.int .i64 0]),R.length)):=af (by rw[hRl];kernel_rfl)
      clear hRo HVAL
     ·have HFI:=af hR
      clear hR
      have HRR:Hid ((w1.alloc (.cells R.toArray 175)).rangeAt w1.heap.size 0 R):=af (aF (heap_alloc_new w1 _) rfl)
      have how1:=HOWG.out _ (ab (ab HG1.out (.cells R.toArray 175)) (.cells R.toArray 175))
      go_wp2_with (first
       |(refine az rfl 175 (.tmp 13) (.tmp 36) rfl _ R rfl rfl hRl.symm HIR.out HONR.out ?_)
       |(refine wpList_load_mid rfl 175 (.tmp 13) rfl w1.heap.size 0 rfl R _ HRR.out Tryz.underlying175 rfl HIR.out ?_)
       |(refine bp rfl 124 175 (.tmp 40) rfl _ R rfl Tryz.underlying124 HIZ.out (by omega) (by omega) ?_)
       |(at_builtin;refine wpList_append_own_at _ rfl (.tmp 39) (.tmp 41) 124 rfl (WA.heap.size) 175 i0 (.agg #[.int .i64 0,.int .i64 0,.int .i64 0,.int .i64 0,.int .i64 0,.int .i64 0,.int .i64 0,.int .i64 0,.int .i64 0,.int .i64 0,.int .i64 0,.int .i64 0,.int .i64 0,.int .i64 0,.int .i64 0,.int .i64 0,.bool false,.bool false,.bool false,.bool false,.int .i64 0,.int .i64 0,.int .i64 0,.int .i64 0]) 24 168 Tryz.underlying124 hi0 hz0 hz1 hz2 rfl (by decide) _ _ _ rfl how1 _ 1 1 R rfl (by omega) (fun j u hj=>bj hj) HONL.out (by unfold maxLen;omega) (by omega) (by simp;omega) ?_))
      intro v' w3 hown3 hg3 _ hpl
      have HO3:=af (HFI.out _ _ hown3)
      have HG3:Hid (WA.grownBy w3 none):=af (aL (ae HG2.out (ab (ab HG1.out _) _)) hg3 HLT.out)
      have HB3:Hid (w3.heap[wr.heap.size]?=some (.cells L.toArray 175 (0,0))):=af (by
       have h4:=(Below.heap_alloc (w1.alloc (.cells R.toArray 175)) (.cells R.toArray 175) _ (lt_of_block ((Below.heap_alloc w1 (.cells R.toArray 175) _ (lt_of_block HBL2.out)).trans HBL2.out))).trans ((Below.heap_alloc w1 (.cells R.toArray 175) _ (lt_of_block HBL2.out)).trans HBL2.out)
       exact (hg3.block _ (lt_of_block h4) (fun e=>HNB.out e.symm)).trans h4)
      have HN3:Hid (v'.ownBlock≠some wr.heap.size):=af (by
       rcases hpl with h|h
       ·rw[h];exact HNB.out
       ·rw[h]
        simp
        omega)
      clear hown3 hg3 hpl
      go_wp2_with fail
      go_roundw
      case rel=>exact⟨j+1,by omega,by go_num,HO3.out,HG3.out,HB3.out,HN3.out⟩
      case measure=>simp[intOf];omega
     ·have HFI:Hid (∀ W,wr2.grownBy W none→W.ownsRow WA.heap.size 175 24 (.slice a2 nl c2) (nH O c t1 t2 l k (j+1)).length (dC wt (nH O c t1 t2 l k (j+1)))):=af (fun W hW=>by
       rw[hR,←HNL.out,←HXS.out]
       exact HOWG.out W hW)
      clear hR
      have HRR:Hid ((w1.alloc (.cells R.toArray 175)).rangeAt w1.heap.size 0 R):=af (aF (heap_alloc_new w1 _) rfl)
      have HB3:Hid ((w1.alloc (.cells R.toArray 175)).heap[wr.heap.size]?=some (.cells L.toArray 175 (0,0))):=af ((Below.heap_alloc w1 (.cells R.toArray 175) _ (lt_of_block HBL2.out)).trans HBL2.out)
      go_wp2_with (first
       |(refine az rfl 175 (.tmp 13) (.tmp 36) rfl _ R rfl rfl hRl.symm HIR.out HONR.out ?_))
      go_roundw
      case rel=>exact⟨j+1,by omega,by go_num,HFI.out _ (ab HG1.out _),ae HG2.out (ab HG1.out _),HB3.out,HNB.out⟩
      case measure=>simp[intOf];omega
    ·have ej:j=O.length:=by omega
     subst ej
     have HO2:Hid (wr2.ownsRow WA.heap.size 175 24 (.slice a2 (nH O c t1 t2 l k O.length).length c2) ((l.take (k+1)).flatMap (iE O c t1 t2)).length (dC wt ((l.take (k+1)).flatMap (iE O c t1 t2)))):=af (by
      rw[←HNX.out]
      exact HOW2.out)
     clear hown hg2 hbl hnb HCK HSU HLEN HST HSN HOW2
     go_wp2_with fail
     go_roundw
     case rel=>exact⟨k+1,by omega,by go_num,HO2.out,HG2.out⟩
     case measure=>simp[intOf];omega
  ·have hkl:k=l.length:=by omega
   subst hkl
   rw[List.take_length] at HOW
   clear hg hown
   go_wp2_with fail
   go_ret
   exact⟨_,rfl,bN HOW.out (by have:=HWA.out.size;omega),ae HWA.out HG.out⟩
def rO (f:Nat→Int):Nat→Int
 |0=>0
 |k+1=>rO f k*10+f k
theorem qo {f:Nat→Int}(hf:∀ k,0≤f k∧f k≤9)(n:Nat)(hn:n≤3):0≤rO f n∧rO f n≤999:=by
 have h0:=hf 0
 have h1:=hf 1
 have h2:=hf 2
 match n,hn with
 |0,_=>simp[rO]
 |1,_=>simp only[rO];omega
 |2,_=>simp only[rO];omega
 |3,_=>simp only[rO];omega
def D6 (l:List aw)(k:Nat):Int:=((vI l k).1:Int) % 10
theorem l8 (l:List aw)(k:Nat):0≤D6 l k∧D6 l k≤9:=by unfold D6;omega
def kI (i:In):Int:=i.rule*1000+rO (D6 i.facts) i.facts.length
theorem sU (L:List Value)(r n:Nat)(f:Nat→Int)(w:World)(hr:r<9)(hn:n≤3)(hf:∀ k,0≤f k∧f k≤9)(k0:L[0]?=some (.int .i64 r))(k3:L[3]?=some (.int .i64 n))(kd:∀ k,k<3→L[4+k*4+1]?=some (.int .i64 (f k))):
  Calls Tryz.prog 107 #[.agg L.toArray] w fun e w'=>e=.returned (.tuple #[.int .i64 (r*1000+rO f n),.bool true])∧w.grownBy w' none:=by
 have hb:(w.alloc (.cells L.toArray 175)).heap[w.heap.size]?=some (.cells L.toArray 175 (0,0)):=heap_alloc_new w _
 have c0:(w.alloc (.cells L.toArray 175)).cell? ⟨w.heap.size,0,none⟩=some (.int .i64 r):=bc hb k0
 have c3:(w.alloc (.cells L.toArray 175)).cell? ⟨w.heap.size,3,none⟩=some (.int .i64 n):=bc hb k3
 have HD:Hid (∀ k,k<3→(w.alloc (.cells L.toArray 175)).cell? ⟨w.heap.size,4+k*4+1,none⟩=some (.int .i64 (f k))):=af (fun k hk=>bc hb (kd k hk))
 have HF:=af hf
 have HG:Hid (w.grownBy (w.alloc (.cells L.toArray 175)) none):=af (ab (ag _ _) _)
 obtain⟨res,hres⟩:∃ res:Int,res=r*1000+rO f n:=⟨_,rfl⟩
 rw[←hres]
 have HRES:=af hres
 clear hb k0 k3 kd hf hres
 go_enter Tryz.func107,Tryz.ntmps107
 go_wp2_with fail
 generalize w.alloc (.cells L.toArray 175)=W at c0 c3 HD HG ⊢
 generalize w.heap.size=b at c0 c3 HD ⊢
 go_loop [4,5] (fun t i=>∃ k:Nat,k≤n∧i=.int .i64 k∧t=.int .i64 (rO f k)) (fun _ i=>n - (intOf i).toNat)
 case atStart=>exact⟨0,by omega,rfl,rfl⟩
 case round=>
  obtain⟨k,hk,rfl,rfl⟩:=hrel
  have hp:=qo HF.out k (by omega)
  by_cases hlt:k<n
  ·have d:=HD.out k (by omega)
   have hfk:=HF.out k
   have hk3:(k:Int)<3:=by omega
   have hk0:(0:Int)≤(k:Int):=by omega
   have HS:Hid (rO f (k+1)=rO f k*10+f k):=af rfl
   obtain⟨pv,hpv⟩:∃ pv,pv=rO f k:=⟨_,rfl⟩
   obtain⟨fk,hfk'⟩:∃ fk,fk=f k:=⟨_,rfl⟩
   rw[←hpv,←hfk'] at HS
   rw[←hpv] at hp ⊢
   rw[←hfk'] at hfk d
   clear hpv hfk'
   go_wp2_with fail
   go_round
   case rel=>exact⟨k+1,by omega,by go_num,by rw[HS.out]⟩
   case measure=>simp[intOf];omega
  ·have e:k=n:=by omega
   subst e
   obtain⟨pv,hpv⟩:∃ pv,pv=rO f k:=⟨_,rfl⟩
   rw[←hpv] at hp HRES ⊢
   clear hpv
   go_wp2_with fail
   go_ret2
   exact⟨by rw[HRES.out];rfl,HG.out⟩
theorem j8 (wt:Int)(i:In)(w:World)(hr:i.rule<9)(hl:i.facts.length≤3):
  Calls Tryz.prog 107 #[.agg (aG wt i).toArray] w fun e w'=>e=.returned (.tuple #[.int .i64 (kI i),.bool true])∧w.grownBy w' none:=
 sU (aG wt i) i.rule i.facts.length (D6 i.facts) w hr hl (l8 i.facts) rfl rfl (fun k hk=>by
  match k,hk with
  |0,_=>rfl
  |1,_=>rfl
  |2,_=>rfl)
theorem Ai (wt:Int)(i:In)(x o:Nat)(w:World)(hr:i.rule<9)(hl:i.facts.length≤3)(hm:w.cell? ⟨x,o,none⟩=some (.slice none 0 0)):
  Calls Tryz.prog 83 #[.pointer (some ⟨x,o,none⟩),.agg (aG wt i).toArray] w fun e w'=>e=.returned (.bool false)∧w.grownBy w' none:=by
 have HP:Hid (∀ W,Calls Tryz.prog 107 #[.agg (aG wt i).toArray] W fun e w'=>e=.returned (.tuple #[.int .i64 (kI i),.bool true])∧W.grownBy w' none):=af (fun W=>j8 wt i W hr hl)
 have hp:0≤kI i∧kI i≤8999:=by
  have:=qo (l8 i.facts) i.facts.length hl
  unfold kI
  omega
 obtain⟨L,hL⟩:∃ L,L=aG wt i:=⟨_,rfl⟩
 have hLl:L.length=24:=by rw[hL];rfl
 rw[←hL] at HP ⊢
 obtain⟨pv,hpv⟩:∃ pv,pv=kI i:=⟨_,rfl⟩
 rw[←hpv] at HP hp
 have HIL:Hid ((Tryz.prog.info? 175).map (·.size)=some L.length):=af (by rw[hLl];exact bC)
 have HRL:Hid ((w.alloc (.cells L.toArray 175)).rangeAt w.heap.size 0 L):=af (aF (heap_alloc_new w _) rfl)
 have HM:=af hm
 clear hL hpv hm
 go_enter Tryz.func83,Tryz.ntmps83
 go_wp2_with (first
  |(refine wpList_load_mid rfl 175 (.tmp 3) rfl w.heap.size 0 rfl L _ HRL.out Tryz.underlying175 rfl HIL.out ?_))
 go_at_call 107
 refine (HP.out _).mono ?_
 rintro e w1 ⟨rfl,hg1⟩
 have HG1:=af (ae (ab (ag w none) _) hg1)
 have hm1:=am HG1.out HM.out
 have hp0:=hp.1
 clear hg1
 go_wp2_with fail
 go_ret
 exact⟨rfl,HG1.out⟩
def e7 (s:ByteArray)(F:List aw)(r:Nat)(L:List Nat)(k:Nat):List In:=(L.take k).foldl (kK 0 s F) [In.start r]
theorem iL (s:ByteArray)(F:List aw)(r:Nat)(L:List Nat)(k:Nat)(hk:k<L.length):e7 s F r L (k+1)=kK 0 s F (e7 s F r L k) L[k]:=by
 unfold e7
 rw[List.take_succ_eq_append_getElem hk,List.foldl_append]
 rfl
theorem jI (s:ByteArray)(F:List aw)(r:Nat)(L:List Nat):e7 s F r L L.length=dz 0 s F r L:=by
 unfold e7 dz
 rw[List.take_length]
theorem Fq {c:Int}(h:aU c=true):c≠33:=by intro e;subst e;simp[aU] at h
theorem lS (s:ByteArray)(L:List Nat)(k:Nat)(hk:k<L.length):bL s (L.take (k+1))=bL s (L.take k)+(if (df s L[k]).k=1 then 1 else 0):=by
 unfold bL
 rw[List.take_succ_eq_append_getElem hk,List.filter_append,List.length_append]
 congr 1
 simp only[List.filter_cons,List.filter_nil]
 by_cases h:(df s L[k]).k=1 <;> simp[h]
theorem j6 (s:ByteArray)(L:List Nat)(k:Nat):bL s (L.take k)≤bL s L:=by
 unfold bL
 exact List.Sublist.length_le ((List.take_sublist k L).filter _)
theorem jF {s:ByteArray}{F:List aw}(hF:F.length≤60)(r:Nat){L:List Nat}(hL:∀ p∈L,b9 s p=true):∀ k,k≤L.length→(e7 s F r L k).length≤60 ^ bL s (L.take k)∧∀ i∈e7 s F r L k,i.facts.length=bL s (L.take k)∧i.rule=r
 |0,_=>by simp[e7,bL,In.start]
 |k+1,hk=>by
  obtain⟨h1,h2⟩:=jF hF r hL k (by omega)
  have hlt:k<L.length:=by omega
  have hok:=hL _ (List.getElem_mem hlt)
  have hck:=kO hok
  rw[iL s F r L k hlt,lS s L k hlt]
  unfold kK
  by_cases h33:bt s L[k]=33
  ·have hc:aU (bt s L[k])=false:=by rw[h33];rfl
   rw[if_pos h33,if_neg (by rw[hck,hc];simp)]
   exact⟨Nat.le_trans (List.length_filter_le _ _) h1,fun i hi=>h2 i (List.mem_filter.mp hi).1⟩
  ·rw[if_neg h33]
   by_cases hc:aU (bt s L[k])=true
   ·rw[if_pos hc,if_pos (hck.mpr hc)]
    refine⟨?_,fun i hi=>?_⟩
    ·have:=ic (m:=60) (fun i=>Nat.le_trans (lF F (bt s L[k]) (bt s (L[k]+1)) (bt s (L[k]+2)) i) hF) (e7 s F r L k)
     rw[Nat.pow_succ]
     exact Nat.le_trans this (Nat.mul_le_mul_right 60 h1)
    ·obtain⟨j,hj,hm⟩:=List.mem_flatMap.mp hi
     unfold iE at hm
     obtain⟨q,_,hq⟩:=List.mem_filterMap.mp hm
     cases hg:gd j.env (bt s L[k]) (bt s (L[k]+1)) (bt s (L[k]+2)) q with
     |none=>rw[hg] at hq;cases hq
     |some e=>
      rw[hg] at hq
      simp only[Option.map_some,Option.some.injEq] at hq
      rw[←hq]
      have:=h2 j hj
      simp[this]
   ·rw[if_neg hc,if_neg (by rw[hck];exact hc)]
    exact⟨Nat.le_trans (List.length_filter_le _ _) h1,fun i hi=>h2 i (List.mem_filter.mp hi).1⟩
theorem tL {s:ByteArray}{F:List aw}(hF:F.length≤60)(r:Nat){L:List Nat}(hL:∀ p∈L,b9 s p=true)(hp:bL s L≤3)(k:Nat)(hk:k≤L.length):(e7 s F r L k).length≤216000:=by
 have h1:=(jF hF r hL k hk).1
 have h2:=j6 s L k
 have h3:60 ^ bL s (L.take k)≤60 ^ 3:=Nat.pow_le_pow_right (by omega) (by omega)
 omega
theorem DE {s:ByteArray}{F:List aw}(hF:F.length≤60)(r:Nat){L:List Nat}(hL:∀ p∈L,b9 s p=true)(hp:bL s L≤3)(k:Nat)(hk:k<L.length)(hc:aU (bt s L[k])=true):(e7 s F r L k).length≤3600∧∀ i∈e7 s F r L k,i.facts.length<3:=by
 obtain⟨h1,h2⟩:=jF hF r hL k (by omega)
 have h4:=j6 s L (k+1)
 have hok:=hL _ (List.getElem_mem hk)
 rw[lS s L k hk,if_pos ((kO hok).mpr hc)] at h4
 have h3:60 ^ bL s (L.take k)≤60 ^ 2:=Nat.pow_le_pow_right (by omega) (by omega)
 refine⟨by omega,fun i hi=>?_⟩
 have:=(h2 i hi).1
 omega
def AN (s:ByteArray)(p:Nat):List Value:=[.int .i64 (df s p).k,.int .i64 (df s p).c,.int .u8 (df s p).g,.int .i64 (df s p).a1,.int .i64 (df s p).a2,.int .i64 (df s p).b1,.int .i64 (df s p).b2]
theorem Ez (s:ByteArray)(p:Nat):(AN s p).length=7:=rfl
theorem EU (s:ByteArray)(p:Nat):∀ v∈AN s p,v.oneCell'=true:=by
 intro v hv
 simp only[AN,List.mem_cons,List.not_mem_nil,or_false] at hv
 rcases hv with h|h|h|h|h|h|h <;> rw[h] <;> rfl
theorem zh {s:ByteArray}{p:Nat}(h:bt s p=33):.agg (AN s p).toArray=jo 2 (bt s (p+1)) 0 (bt s (p+2)) (bt s (p+3))∧(df s p).k=2:=by
 have e:df s p=l4 2 s (p+1):=by simp[df,h]
 unfold AN
 rw[e]
 exact⟨rfl,rfl⟩
theorem zk {s:ByteArray}{p:Nat}(h:aU (bt s p)=true):.agg (AN s p).toArray=jo 1 (bt s p) 0 (bt s (p+1)) (bt s (p+2))∧(df s p).k=1:=by
 have e:df s p=l4 1 s p:=by simp[df,Fq h,h]
 unfold AN
 rw[e]
 exact⟨rfl,rfl⟩
theorem yX {s:ByteArray}{p:Nat}(h33:bt s p≠33)(h:aU (bt s p)=false):.agg (AN s p).toArray=yv 3 0 (bt s (p+1)) (bt s p) (bt s (p+2))∧(df s p).k=3:=by
 have e:df s p=rq s p:=by simp[df,h33,h]
 unfold AN
 rw[e]
 exact⟨rfl,rfl⟩
theorem CS {s:ByteArray}{p:Nat}(hok:b9 s p=true)(h:bt s p=33):c8 (bt s (p+2))=true∧c8 (bt s (p+3))=true:=by
 unfold b9 at hok
 rw[if_pos h] at hok
 unfold bx at hok
 split at hok
 ·split at hok
  ·split at hok
   ·rename_i h1 h2;exact⟨h1,h2⟩
   ·simp at hok
  ·simp at hok
 ·simp at hok
theorem De {s:ByteArray}{p:Nat}(hok:b9 s p=true)(h:aU (bt s p)=true):c8 (bt s (p+1))=true∧c8 (bt s (p+2))=true:=by
 unfold b9 at hok
 rw[if_neg (Fq h),if_pos h] at hok
 unfold bx at hok
 split at hok
 ·split at hok
  ·split at hok
   ·rename_i h1 h2;exact⟨h1,h2⟩
   ·simp at hok
  ·simp at hok
 ·rename_i h9
  exact absurd h h9
theorem uu {s:ByteArray}{p:Nat}(hok:b9 s p=true)(h33:bt s p≠33)(h:aU (bt s p)=false):bg (bt s p)=true∧gI (bt s (p+1))=true∧bg (bt s (p+2))=true:=by
 unfold b9 at hok
 rw[if_neg h33,h,if_neg (by simp)] at hok
 unfold bT at hok
 split at hok
 ·split at hok
  ·split at hok
   ·rename_i h1 h2 h3;exact⟨h1,h2,h3⟩
   ·simp at hok
  ·simp at hok
 ·simp at hok
end Go.Proofs.YthlhbjnkohinmabGreat
