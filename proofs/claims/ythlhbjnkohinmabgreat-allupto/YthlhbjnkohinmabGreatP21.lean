import Derived.Test.YthlhbjnkohinmabGreatP13
import Derived.Test.YthlhbjnkohinmabGreatP09
import Derived.Test.YthlhbjnkohinmabGreatP17
namespace Go.Proofs.YthlhbjnkohinmabGreat
set_option maxRecDepth 100000
set_option maxHeartbeats 8000000
open Go.RowKit
def EO (p:Int×Option Int):List Value:=[.int .i64 p.1,.bool p.2.isSome,.int .i64 (p.2.getD 0)]
theorem C5 {w:World}{g:Nat}{l:gw}(hc:∀ i v,(cu l)[i]?=some v→w.cell? ⟨g,i,none⟩=some v){k:Nat}(hk:k<l.length):w.rangeAt g (k*3) (EO l[k]):=by
 intro j v hv
 obtain⟨h0,h1,h2⟩:=iW l k hk
 match j,hv with
 |0,hv=>exact hc _ _ (h0.trans hv)
 |1,hv=>exact hc _ _ (h1.trans hv)
 |2,hv=>exact hc _ _ (h2.trans hv)
 |j+3,hv=>simp[EO] at hv
theorem vA {α:Type}(P:α→Bool)(l:List α)(k:Nat)(hk:k<l.length):(l.take (k+1)).filter P=(l.take k).filter P++(if P l[k] then [l[k]] else []):=by
 rw[List.take_succ_eq_append_getElem hk,List.filter_append]
 congr 1
 simp only[List.filter_cons,List.filter_nil]
theorem B4:(Tryz.prog.info? 137).map (·.size)=some 3:=by kernel_rfl
theorem uQ (b o:Nat)(l:gw)(t:Int)(a:Option Addr)(cp:Nat)(cs:Array Value)(ty:TypeId)(w:World)(hl:(l.length+1)*24≤140737488355328)
  (hb:w.heap[b]?=some (.cells cs ty (0,0))) (hc:w.cell? ⟨b,o+1,none⟩=some (.slice a l.length cp)) (hrow:w.ownsRow 0 137 3 (.slice a l.length cp) l.length (cu l)) :
  Calls Tryz.prog 94 #[.pointer (some ⟨b,o,none⟩),.int .i64 t] w fun e w'=>e=.returned (.int .i64 ((l.length:Int) - ((dx l t).length:Int)))∧
   ∃ v w3,w3.ownsRow w.heap.size 137 3 v (dx l t).length (cu (dx l t))∧w.grownBy w3 none∧w'=w3.setCell ⟨b,o+1,none⟩ v:=by
 obtain⟨i0,hi0,hz0,hz1,hz2⟩:=info_parts Tryz.info137
 have hbl:=lt_of_block hb
 have HAT:=af (yx b o l t a l.length cp w (by omega) hc hrow)
 have HROW:=af hrow
 have HC:=af hc
 have HB:=af hb
 have HBB:Hid (∀ p,jR l t p=(decide (t<p.1)||(decide (p.1=(aN l t).1)&&p.2.isSome))):=af (fun _=>rfl)
 have HSW:Hid (dx l t=l.filter (jR l t)):=af rfl
 generalize hP:jR l t=P at HBB HSW
 generalize hbv:aN l t=bv at HAT HBB
 obtain⟨bs,bq⟩:=bv
 unfold rI at HAT
 simp only at HAT HBB
 obtain⟨bf,hbf⟩:∃ bf,bf=bq.isSome:=⟨_,rfl⟩
 obtain⟨bw,hbw⟩:∃ bw,bw=bq.getD 0:=⟨_,rfl⟩
 rw[←hbf,←hbw] at HAT
 rw[HSW.out]
 clear hrow hc hb hP hbv hbf hbw HSW
 go_enter Tryz.func94,Tryz.ntmps94
 go_wp2_with fail
 go_at_call 88
 refine HAT.out.mono ?_
 rintro e w1 ⟨rfl,hg1⟩
 have hs1:=hg1.size
 have hc1:=am hg1 HC.out
 have HG1:=af hg1
 clear hg1 HAT
 have hbz1:b≠w1.heap.size:=by omega
 have hbs:(w1.alloc (.cells #[.int .i64 bs,.bool bf,.int .i64 bw] 137)).cell? ⟨w1.heap.size,0,none⟩=some (.int .i64 bs):=by rw[cell_of_row _ _ _ _ _ _ (heap_alloc_new w1 _)];rfl
 have HBS:=af hbs
 have HGW:Hid (w.grownBy (w1.alloc (.cells #[.int .i64 bs,.bool bf,.int .i64 bw] 137)) none):=af (ab HG1.out _)
 have hc2:=am HGW.out HC.out
 clear hbs hc1
 go_wp2_with fail
 generalize hW0:w1.alloc (.cells #[.int .i64 bs,.bool bf,.int .i64 bw] 137)=W0 at HBS HGW ⊢
 have hs0:w1.heap.size<W0.heap.size:=by rw[←hW0];simp
 clear hW0 HG1
 go_loopw [6,19] (fun t i wr=>∃ k:Nat,k≤l.length∧i=.int .i64 k∧wr.ownsRow W0.heap.size 137 3 t ((l.take k).filter P).length (cu ((l.take k).filter P))∧W0.grownBy wr none) (fun _ i _=>l.length - (intOf i).toNat)
 case atStart=>exact⟨0,by omega,rfl,World.ownsRow_nil _ _ _ _,ag _ _⟩
 case round=>
  obtain⟨k,hk,rfl,hown,hg⟩:=hrel
  have HG:=af hg
  have HOW:=af hown
  by_cases hlt:k<l.length
  ·have how:=aq HROW.out (ae HGW.out hg) (fun g hg=>by cases hg)
   obtain⟨gf,rfl,_,_,hgl,hcell⟩:=aC how (by omega)
   obtain⟨L,hL⟩:∃ L,L=EO l[k]:=⟨_,rfl⟩
   have HRG:Hid (wr.rangeAt gf (k*3) L):=af (by rw[hL];exact C5 hcell hlt)
   have hLl:L.length=3:=by rw[hL];rfl
   have HIL:Hid ((Tryz.prog.info? 137).map (·.size)=some L.length):=af (by rw[hLl];exact B4)
   have HIZ:Hid ((Tryz.prog.info? 137).map (fun i=>(i.zero,i.size))=some (some (.agg #[.int .i64 0,.bool false,.int .i64 0]),L.length)):=af (by rw[hLl];kernel_rfl)
   have HON:Hid (∀ u∈L,u.oneCell'=true):=af (by
    rw[hL]
    intro u hu
    simp[EO] at hu
    rcases hu with h|h|h <;> subst h <;> rfl)
   have HONA:Hid (L.toArray.all (·.oneCell')=true):=af (all_oneCell_toArray HON.out)
   have HBN:Hid ((wr.alloc (.cells L.toArray 137)).heap[wr.heap.size]?=some (.cells L.toArray 137 (0,0))):=af (heap_alloc_new wr _)
   obtain⟨st,hst⟩:∃ st:Int,st=l[k].1:=⟨_,rfl⟩
   obtain⟨fl,hfl⟩:∃ fl:Bool,fl=l[k].2.isSome:=⟨_,rfl⟩
   have k0:(wr.alloc (.cells L.toArray 137)).cell? ⟨wr.heap.size,0,none⟩=some (.int .i64 st):=by
    rw[cell_of_row _ _ _ _ _ _ HBN.out,hL,hst]
    rfl
   have k1:(wr.alloc (.cells L.toArray 137)).cell? ⟨wr.heap.size,1,none⟩=some (.bool fl):=by
    rw[cell_of_row _ _ _ _ _ _ HBN.out,hL,hfl]
    rfl
   have kb:(wr.alloc (.cells L.toArray 137)).cell? ⟨w1.heap.size,0,none⟩=some (.int .i64 bs):=am (ab HG.out _) HBS.out
   have HRN:Hid ((wr.alloc (.cells L.toArray 137)).rangeAt wr.heap.size 0 L):=af (aF HBN.out rfl)
   have hjl:((l.take k).filter P).length≤k:=Nat.le_trans (List.length_filter_le _ _) (List.length_take_le k l)
   obtain⟨a2,m,c,rfl⟩:=an hown
   have em:=ar hown
   subst em
   have hsz:=hg.size
   have hne:gf≠wr.heap.size:=by omega
   have hne1:w1.heap.size≠wr.heap.size:=by omega
   have HSUC:=af (vA P l k hlt)
   have HBK:Hid (P l[k]=(decide (t<st)||(decide (st=bs)&&fl))):=af (by rw[HBB.out,←hst,←hfl])
   have HFIN:Hid (P l[k]=true→∀ (w3:World) (v':Value),w3.ownsRow W0.heap.size 137 3 v' (((l.take k).filter P).length+1) (cu ((l.take k).filter P)++L)→w3.ownsRow W0.heap.size 137 3 v' ((l.take (k+1)).filter P).length (cu ((l.take (k+1)).filter P))):=af (fun e w3 v' h=>by
    rw[HSUC.out,if_pos e,mM,List.length_append]
    rw[hL] at h
    exact h)
   have HSKIP:Hid (P l[k]=false→(l.take (k+1)).filter P=(l.take k).filter P):=af (fun e=>by rw[HSUC.out,e];simp)
   rw[HBK.out] at HFIN HSKIP
   have HWG:Hid (∀ o,wr.grownBy (wr.alloc o) none):=af (fun o=>ab (ag _ _) o)
   have HOWG:Hid (∀ W,wr.grownBy W none→W.ownsRow W0.heap.size 137 3 (.slice a2 ((l.take k).filter P).length c) ((l.take k).filter P).length (cu ((l.take k).filter P))):=af (fun W hW=>aq HOW.out hW (fun g hg=>by cases hg))
   have how1:=HOWG.out _ (ab (HWG.out (.cells L.toArray 137)) (.cells L.toArray 137))
   have HLT:=af (fun g hg=>(HOW.out.lt g hg).1)
   obtain⟨nl,hnl⟩:∃ nl,nl=((l.take k).filter P).length:=⟨_,rfl⟩
   obtain⟨xs,hxs⟩:∃ xs,xs=cu ((l.take k).filter P):=⟨_,rfl⟩
   rw[←hnl] at HFIN HOWG HOW HLT hjl how1 ⊢
   rw[←hxs] at HFIN HOWG HOW how1
   have HNL:=af hnl
   have HXS:=af hxs
   clear hnl hxs HSUC hL how hcell hown hg hst hfl HBK
   by_cases he:st=bs
   ·have q:(st==bs)=true:=by simpa using he
    cases fl with
    |true=>
     by_cases hg2:t<st
     ·have HFI:=af (HFIN.out (by simp[hg2]))
      clear he HFIN HSKIP
      go_wp2_with (first
       |(refine wpList_load_mid rfl 137 (.tmp 21) rfl gf (k*3) rfl L _ HRG.out Tryz.underlying137 rfl HIL.out ?_)
       |(refine az rfl 137 (.tmp 8) (.tmp 22) rfl _ L rfl rfl hLl.symm HIL.out HONA.out ?_)
       |(refine wpList_load_mid rfl 137 (.tmp 8) rfl wr.heap.size 0 rfl L _ HRN.out Tryz.underlying137 rfl HIL.out ?_)
       |(refine bp rfl 87 137 (.tmp 41) rfl _ L rfl Tryz.underlying87 HIZ.out (by omega) (by omega) ?_)
       |(at_builtin;refine wpList_append_own _ rfl (.tmp 40) (.tmp 42) 87 rfl (W0.heap.size) 137 i0 (.agg #[.int .i64 0,.bool false,.int .i64 0]) 3 24 Tryz.underlying87 hi0 hz0 hz1 hz2 rfl (by decide) _ _ _ rfl how1 _ 1 1 L rfl (by omega) (fun j u hj=>bj hj) HON.out (by unfold maxLen;omega) (by omega) (by simp;omega) ?_))
      intro v' w3 hown3 hg3 _
      have HO3:=af hown3
      have HG3:=af hg3
      clear hown3 hg3
      go_wp2_with fail
      go_roundw
      case rel=>exact⟨k+1,by omega,by go_num,HFI.out _ _ HO3.out,aL (ae HG.out (ab (HWG.out _) _)) HG3.out HLT.out⟩
      case measure=>simp[intOf];omega
     ·have HFI:=af (HFIN.out (by simp[he]))
      clear he HFIN HSKIP
      go_wp2_with (first
       |(refine wpList_load_mid rfl 137 (.tmp 21) rfl gf (k*3) rfl L _ HRG.out Tryz.underlying137 rfl HIL.out ?_)
       |(refine az rfl 137 (.tmp 8) (.tmp 22) rfl _ L rfl rfl hLl.symm HIL.out HONA.out ?_)
       |(refine wpList_load_mid rfl 137 (.tmp 8) rfl wr.heap.size 0 rfl L _ HRN.out Tryz.underlying137 rfl HIL.out ?_)
       |(refine bp rfl 87 137 (.tmp 41) rfl _ L rfl Tryz.underlying87 HIZ.out (by omega) (by omega) ?_)
       |(at_builtin;refine wpList_append_own _ rfl (.tmp 40) (.tmp 42) 87 rfl (W0.heap.size) 137 i0 (.agg #[.int .i64 0,.bool false,.int .i64 0]) 3 24 Tryz.underlying87 hi0 hz0 hz1 hz2 rfl (by decide) _ _ _ rfl how1 _ 1 1 L rfl (by omega) (fun j u hj=>bj hj) HON.out (by unfold maxLen;omega) (by omega) (by simp;omega) ?_))
      intro v' w3 hown3 hg3 _
      have HO3:=af hown3
      have HG3:=af hg3
      clear hown3 hg3
      go_wp2_with fail
      go_roundw
      case rel=>exact⟨k+1,by omega,by go_num,HFI.out _ _ HO3.out,aL (ae HG.out (ab (HWG.out _) _)) HG3.out HLT.out⟩
      case measure=>simp[intOf];omega
    |false=>
     by_cases hg2:t<st
     ·have HFI:=af (HFIN.out (by simp[hg2]))
      clear he HFIN HSKIP
      go_wp2_with (first
       |(refine wpList_load_mid rfl 137 (.tmp 21) rfl gf (k*3) rfl L _ HRG.out Tryz.underlying137 rfl HIL.out ?_)
       |(refine az rfl 137 (.tmp 8) (.tmp 22) rfl _ L rfl rfl hLl.symm HIL.out HONA.out ?_)
       |(refine wpList_load_mid rfl 137 (.tmp 8) rfl wr.heap.size 0 rfl L _ HRN.out Tryz.underlying137 rfl HIL.out ?_)
       |(refine bp rfl 87 137 (.tmp 41) rfl _ L rfl Tryz.underlying87 HIZ.out (by omega) (by omega) ?_)
       |(at_builtin;refine wpList_append_own _ rfl (.tmp 40) (.tmp 42) 87 rfl (W0.heap.size) 137 i0 (.agg #[.int .i64 0,.bool false,.int .i64 0]) 3 24 Tryz.underlying87 hi0 hz0 hz1 hz2 rfl (by decide) _ _ _ rfl how1 _ 1 1 L rfl (by omega) (fun j u hj=>bj hj) HON.out (by unfold maxLen;omega) (by omega) (by simp;omega) ?_))
      intro v' w3 hown3 hg3 _
      have HO3:=af hown3
      have HG3:=af hg3
      clear hown3 hg3
      go_wp2_with fail
      go_roundw
      case rel=>exact⟨k+1,by omega,by go_num,HFI.out _ _ HO3.out,aL (ae HG.out (ab (HWG.out _) _)) HG3.out HLT.out⟩
      case measure=>simp[intOf];omega
     ·have HSK:=af (HSKIP.out (by simp[hg2]))
      clear he HFIN HSKIP
      go_wp2_with (first
       |(refine wpList_load_mid rfl 137 (.tmp 21) rfl gf (k*3) rfl L _ HRG.out Tryz.underlying137 rfl HIL.out ?_)
       |(refine az rfl 137 (.tmp 8) (.tmp 22) rfl _ L rfl rfl hLl.symm HIL.out HONA.out ?_))
      go_roundw
      case rel=>exact⟨k+1,by omega,by go_num,by rw[HSK.out,←HNL.out,←HXS.out];exact HOWG.out _ (HWG.out _),ae HG.out (HWG.out _)⟩
      case measure=>simp[intOf];omega
   ·have q:(st==bs)=false:=by simpa using he
    by_cases hg2:t<st
    ·have HFI:=af (HFIN.out (by simp[hg2]))
     clear he HFIN HSKIP
     go_wp2_with (first
      |(refine wpList_load_mid rfl 137 (.tmp 21) rfl gf (k*3) rfl L _ HRG.out Tryz.underlying137 rfl HIL.out ?_)
      |(refine az rfl 137 (.tmp 8) (.tmp 22) rfl _ L rfl rfl hLl.symm HIL.out HONA.out ?_)
      |(refine wpList_load_mid rfl 137 (.tmp 8) rfl wr.heap.size 0 rfl L _ HRN.out Tryz.underlying137 rfl HIL.out ?_)
      |(refine bp rfl 87 137 (.tmp 41) rfl _ L rfl Tryz.underlying87 HIZ.out (by omega) (by omega) ?_)
      |(at_builtin;refine wpList_append_own _ rfl (.tmp 40) (.tmp 42) 87 rfl (W0.heap.size) 137 i0 (.agg #[.int .i64 0,.bool false,.int .i64 0]) 3 24 Tryz.underlying87 hi0 hz0 hz1 hz2 rfl (by decide) _ _ _ rfl how1 _ 1 1 L rfl (by omega) (fun j u hj=>bj hj) HON.out (by unfold maxLen;omega) (by omega) (by simp;omega) ?_))
     intro v' w3 hown3 hg3 _
     have HO3:=af hown3
     have HG3:=af hg3
     clear hown3 hg3
     go_wp2_with fail
     go_roundw
     case rel=>exact⟨k+1,by omega,by go_num,HFI.out _ _ HO3.out,aL (ae HG.out (ab (HWG.out _) _)) HG3.out HLT.out⟩
     case measure=>simp[intOf];omega
    ·have HSK:=af (HSKIP.out (by simp[hg2,he]))
     clear he HFIN HSKIP
     go_wp2_with (first
      |(refine wpList_load_mid rfl 137 (.tmp 21) rfl gf (k*3) rfl L _ HRG.out Tryz.underlying137 rfl HIL.out ?_)
      |(refine az rfl 137 (.tmp 8) (.tmp 22) rfl _ L rfl rfl hLl.symm HIL.out HONA.out ?_))
     go_roundw
     case rel=>exact⟨k+1,by omega,by go_num,by rw[HSK.out,←HNL.out,←HXS.out];exact HOWG.out _ (HWG.out _),ae HG.out (HWG.out _)⟩
     case measure=>simp[intOf];omega
  ·have hkl:k=l.length:=by omega
   subst hkl
   rw[List.take_length] at HOW hown
   have hcw:=am (ae HGW.out hg) HC.out
   have hbw:wr.heap[b]?=some (.cells cs ty (0,0)):=((ae HGW.out hg).block b hbl (by simp)).trans HB.out
   have z0:=ai hbw (o+1)
   obtain⟨a2,m,c,rfl⟩:=an hown
   have em:=ar hown
   subst em
   have hle:(l.filter P).length≤l.length:=List.length_filter_le _ _
   have HFI:Hid (wr.ownsRow w.heap.size 137 3 (.slice a2 (l.filter P).length c) (l.filter P).length (cu (l.filter P))):=af (bN HOW.out (by have:=HGW.out.size;omega))
   have HGF:=af (ae HGW.out hg)
   obtain⟨nf,hnf⟩:∃ nf,nf=(l.filter P).length:=⟨_,rfl⟩
   rw[←hnf] at HFI hle ⊢
   have HNF:=af hnf
   clear hg hown hbw HOW hnf
   go_wp2_with fail
   go_ret
   rw[←HNF.out]
   exact⟨by go_num,_,_,HFI.out,HGF.out,rfl⟩
def ap.setHist (X:ap)(c:Nat)(l:gw):ap:={ X with hist:=cI X.hist c l }
theorem jq.setKept {w:World}{x:Nat}{X:ap}{kv:Nat→Value}{cs:Array Value}(h:jq w x X kv)(hb:w.heap[x]?=some (.cells cs 94 (0,0))){w':World}{c:Nat}(hc:c<60)(nv:Value)
  (hb':w'.heap[x]?=some (.cells (cs.setIfInBounds (1955+1+c*2+1) nv) 94 (0,0))) (l:gw) :
  jq w' x (X.setHist c l) (cI kv c nv):=by
 have e0:∀ i v,w.cell? ⟨x,i,none⟩=some v→cs[i]?=some v:=fun i v hv=>by rw[cell_of_row _ _ _ _ _ _ hb] at hv;exact hv
 have far:∀ i v,i≠1955+1+c*2+1→w.cell? ⟨x,i,none⟩=some v→w'.cell? ⟨x,i,none⟩=some v:=fun i v h2 hv=>by
  rw[cell_of_row _ _ _ _ _ _ hb',Array.getElem?_setIfInBounds_ne (fun e=>h2 e.symm)]
  exact e0 i v hv
 have hsz:1955+1+c*2+1<cs.size:=(Array.getElem?_eq_some_iff.mp (e0 _ _ (h.store.kept c hc))).1
 refine⟨⟨_,hb'⟩,far _ _ (by omega) h.rules,far _ _ (by omega) h.room,far _ _ (by omega) h.opened,fun k hk=>?_,⟨far _ _ (by omega) h.store.latest,fun d hd=>far _ _ (by omega) (h.store.last d hd),fun d hd=>?_⟩⟩
 ·have hs:=h.ses k hk
  exact⟨far _ _ (by omega) hs.num,far _ _ (by omega) hs.snap,far _ _ (by omega) hs.cnt,fun d hd=>far _ _ (by omega) (hs.made d hd),fun d hd=>far _ _ (by omega) (hs.filled d hd),fun d hd=>far _ _ (by omega) (hs.val d hd),fun d hd=>far _ _ (by omega) (hs.tm d hd),far _ _ (by omega) hs.mks,hs.ok⟩
 ·by_cases e:d=c
  ·subst e
   rw[aW,cell_of_row _ _ _ _ _ _ hb',Array.getElem?_setIfInBounds_self_of_lt hsz]
  ·rw[bD _ _ _ e]
   exact far _ _ (by omega) (h.store.kept d hd)
theorem bP.comp {P:eM}{f f1:List Nat}{w w1 w2:World}(s1:∀ x∈f1,x∈f∨w.heap.size≤x)(r1:Fr f w w1)(k:bP P f1 w1 w2):bP P f w w2:=by
 obtain⟨f2,a2,n2,s2,r2⟩:=k
 refine⟨f2,a2,n2,fun x hx=>?_,sO r1 r2 s1⟩
 rcases s2 x hx with h|h
 ·exact s1 x h
 ·exact .inr (Nat.le_trans r1.size h)
theorem wM (x:Nat)(X:ap)(f:List Nat)(c:Nat)(t:Int)(w:World)(hc:c<60)(h:aV x X w f)(hn:f.Nodup)(hl:((X.hist c).length+1)*24≤140737488355328):
  Calls Tryz.prog 94 #[.pointer (some ⟨x,1955+1+c*2,none⟩),.int .i64 t] w fun e w'=>e=.returned (.int .i64 (((X.hist c).length:Int) - ((dx (X.hist c) t).length:Int)))∧bP (aV x (X.setHist c (dx (X.hist c) t))) f w w':=by
 have hwi:=aV.within _ _ h
 obtain⟨kv,hP,f2,hE,rfl⟩:=h
 obtain⟨cs,hb⟩:=hP.block
 have hkc:=hP.store.kept c hc
 have hlen1:c<((List.range 60).map kv).length:=by simpa using hc
 have hlen2:c<((List.range 60).map X.hist).length:=by simpa using hc
 obtain⟨fa,g,fb,hh,e2,hput⟩:=aA.focus ia.framed hE c hlen1 hlen2
 subst e2
 simp only[List.getElem_map,List.getElem_range] at hh
 obtain⟨hrow,rfl⟩:=hh
 obtain⟨a,m,cp,hkv⟩:=an hrow
 rw[hkv] at hrow hkc hn hwi
 have em:=ar hrow
 subst em
 have hxl:=lt_of_block hb
 refine (uQ x (1955+1+c*2) (X.hist c) t a cp cs 94 w hl hb hkc hrow).mono ?_
 rintro e w' ⟨rfl,v,w3,hown3,hg3,rfl⟩
 refine⟨rfl,?_⟩
 have hb3:w3.heap[x]?=some (.cells cs 94 (0,0)):=(hg3.block x hxl (by simp)).trans hb
 have hb4:(w3.setCell ⟨x,1955+1+c*2+1,none⟩ v).heap[x]?=some (.cells (cs.setIfInBounds (1955+1+c*2+1) v) 94 (0,0)):=ah hb3 _ _
 have hP':=hP.setKept hb hc v hb4 (dx (X.hist c) t)
 have hfr4:Fr [x] w (w3.setCell ⟨x,1955+1+c*2+1,none⟩ v):=((aI hg3).mono (fun k hk=>by cases hk)).set (.inl (by simp)) _
 have hnew:∀ k∈v.ownBlock.toList,w.heap.size≤k:=fun k hk=>by
  cases hv:v.ownBlock with
  |none=>rw[hv] at hk;cases hk
  |some g2=>
   rw[hv] at hk
   simp at hk
   rw[hk]
   exact (hown3.lt g2 hv).1
 have hn2:((x::fa)++((Value.slice a (X.hist c).length cp).ownBlock.toList++fb)).Nodup:=by simpa using hn
 have hdis:∀ k,k∈fa∨k∈fb→k∉[x]:=by
  intro k hk hk2
  rw[List.mem_singleton] at hk2
  subst hk2
  rw[List.cons_append,List.nodup_cons] at hn2
  rcases hk with h|h
  ·exact hn2.1 (by simp[h])
  ·exact hn2.1 (by simp[h])
 have hH:ia v (dx (X.hist c) t) (w3.setCell ⟨x,1955+1+c*2+1,none⟩ v) v.ownBlock.toList:=by
  refine⟨?_,rfl⟩
  exact ownsRow_setCell_other (bN hown3 (Nat.zero_le _)) (aS hown3 hb3 (by decide)) _
 have hE':=hput _ _ _ _ _ hH hfr4 (fun k hk=>hdis k (.inl hk)) (fun k hk=>hdis k (.inr hk))
 refine⟨x::(fa++(v.ownBlock.toList++fb)),⟨_,hP',_,?_,rfl⟩,?_,?_,?_⟩
 ·show aA ia ((List.range 60).map (cI kv c _)) ((List.range 60).map (cI X.hist c _)) _ _
  rw[gX,gX]
  exact hE'
 ·have:=dE (fa:=x::fa) (g:=(Value.slice a (X.hist c).length cp).ownBlock.toList) (g':=v.ownBlock.toList) (fb:=fb) (N:=w.heap.size) hn2 (fun k hk=>hwi k (by simpa using hk)) (by cases v.ownBlock <;> simp) (fun k hk=>.inr (hnew k hk))
  simpa using this
 ·intro k hk
  rw[hkv]
  have:=hnew k
  simp only[List.mem_cons,List.mem_append] at hk ⊢
  grind
 ·rw[hkv]
  exact hfr4.mono (fun k hk=>.inl (by simp only[List.mem_cons,List.mem_append,List.not_mem_nil,or_false] at hk ⊢;grind))
def gK (X:ap)(t:Int)(k:Nat):ap:={ X with hist:=fun c=>if c<k then dx (X.hist c) t else X.hist c }
theorem vy (X:ap)(t:Int)(k:Nat):gK X t (k+1)=(gK X t k).setHist k (dx ((gK X t k).hist k) t):=by
 unfold gK ap.setHist
 congr 1
 funext c
 by_cases e:c=k
 ·subst e;simp[cI]
 ·have:(c<k+1)=(c<k):=by apply propext;omega
  simp only[this,cI,e,if_false]
theorem sk (X:ap)(t:Int)(k:Nat):(gK X t k).hist k=X.hist k:=by simp[gK]
theorem wR {x:Nat}{X:ap}{t:Int}{w:World}{f:List Nat}(h:aV x (gK X t 60) w f):aV x (X.swept t) w f:=
 h.congr rfl rfl rfl rfl (fun _ _=>rfl) (fun c hc=>by simp[gK,ap.swept,hc])
theorem uB {x:Nat}{X:ap}{t:Int}{w:World}{f:List Nat}(h:aV x X w f):aV x (gK X t 0) w f:=
 h.congr rfl rfl rfl rfl (fun _ _=>rfl) (fun c hc=>by simp[gK])
def jQ (X:ap)(t:Int)(k:Nat):Int:=(keptN X k:Int) - (keptN (X.swept t) k:Int)
theorem xG (X:ap)(t:Int)(k:Nat):jQ X t (k+1)=jQ X t k+(((X.hist k).length:Int) - ((dx (X.hist k) t).length:Int)):=by
 have h1:keptN X (k+1)=keptN X k+(X.hist k).length:=rfl
 have h2:keptN (X.swept t) (k+1)=keptN (X.swept t) k+(dx (X.hist k) t).length:=rfl
 unfold jQ
 omega
theorem Cm (X:ap)(t:Int)(k:Nat):0≤jQ X t k∧jQ X t k≤keptN X k:=by
 have:=gY X t k
 unfold jQ
 omega
theorem wY (x:Nat)(X:ap)(t:Int)(f:List Nat)(w:World)(h:aV x X w f)(hn:f.Nodup)(hl:∀ c,c<60→((X.hist c).length+1)*24≤140737488355328)(hm:keptN X 60≤9223372036854775807):
  Calls Tryz.prog 65 #[.pointer (some ⟨x,1955,none⟩),.int .i64 t] w fun e w'=>e=.returned (.int .i64 (jQ X t 60))∧bP (aV x (X.swept t)) f w w':=by
 have HST:Hid (bP (aV x (gK X t 0)) f w w):=af ⟨f,uB h,hn,fun _ hx=>.inl hx,Fr.refl _ _⟩
 have HHL:=af hl
 have HMO:Hid (∀ k,k≤60→0≤jQ X t k∧jQ X t k≤9223372036854775807):=af (fun k hk=>by
  have:=Cm X t k
  have:=ke X hk
  omega)
 have hxl:x<w.heap.size:=aV.within _ _ h x (by obtain⟨_,_,_,_,rfl⟩:=h;simp)
 clear h hn hl hm
 go_enter Tryz.func65,Tryz.ntmps65
 go_wp2_with fail
 go_loopw [5,6] (fun d i wr=>∃ k:Nat,k≤60∧i=.int .i64 k∧d=.int .i64 (jQ X t k)∧bP (aV x (gK X t k)) f w wr) (fun _ i _=>60 - (intOf i).toNat)
 case atStart=>exact⟨0,by omega,rfl,rfl,HST.out⟩
 case round=>
  obtain⟨k,hk,rfl,rfl,hat⟩:=hrel
  have HATO:=af hat
  clear hat
  by_cases hlt:k<60
  ·have HCALL:Hid (Calls Tryz.prog 94 #[.pointer (some ⟨x,1955+1+k*2,none⟩),.int .i64 t] wr fun e w'=>e=.returned (.int .i64 (((X.hist k).length:Int) - ((dx (X.hist k) t).length:Int)))∧bP (aV x (gK X t (k+1))) f w w'):=af (by
    obtain⟨f1,a1,n1,s1,r1⟩:=HATO.out
    refine (wM x (gK X t k) f1 k t wr hlt a1 n1 (by rw[sk];exact HHL.out k hlt)).mono ?_
    rintro e w' ⟨rfl,ht⟩
    rw[←vy] at ht
    exact⟨by rw[sk],bP.comp s1 r1 ht⟩)
   have HSU:=af (xG X t k)
   have hm0:=HMO.out k hk
   have hm1:=HMO.out (k+1) (by omega)
   rw[HSU.out] at hm1
   have hxr:x<wr.heap.size:=by
    obtain⟨_,_,_,_,r1⟩:=HATO.out
    exact Nat.lt_of_lt_of_le hxl r1.size
   obtain⟨d0,hd0⟩:∃ d0,d0=jQ X t k:=⟨_,rfl⟩
   obtain⟨d1,hd1⟩:∃ d1,d1=((X.hist k).length:Int) - ((dx (X.hist k) t).length:Int):=⟨_,rfl⟩
   rw[←hd0,←hd1] at hm1 HSU
   rw[←hd1] at HCALL
   rw[←hd0] at hm0 ⊢
   clear hd0 hd1
   go_wp2_with fail
   go_at_call 94
   refine HCALL.out.mono ?_
   rintro e w' ⟨rfl,ht⟩
   have HT:=af ht
   clear ht
   go_wp2_with fail
   go_roundw
   case rel=>exact⟨k+1,by omega,by go_num,by rw[HSU.out],HT.out⟩
   case measure=>simp[intOf];omega
  ·have e:k=60:=by omega
   subst e
   have HF:Hid (bP (aV x (X.swept t)) f w wr):=af (by
    obtain⟨f1,a1,n1,s1,r1⟩:=HATO.out
    exact⟨f1,wR a1,n1,s1,r1⟩)
   go_wp2_with fail
   go_ret
   exact⟨rfl,HF.out⟩
theorem wW (x:Nat)(X:ap)(kv:Nat→Value)(w:World)(h:jq w x X kv):
  Calls Tryz.prog 64 #[.pointer (some ⟨x,0,none⟩)] w fun e w'=>e=.returned (.int .i64 (cO X 8))∧w'=w:=by
 have HN:Hid (∀ k,k<8→w.cell? ⟨x,3+k*244,none⟩=some (.int .i64 (X.ses k).num)∧w.cell? ⟨x,3+k*244+1,none⟩=some (.int .i64 (X.ses k).snap)):=af (fun k hk=>⟨(h.ses k hk).num,(h.ses k hk).snap⟩)
 have c0:w.cell? ⟨x,1955,none⟩=some (.int .i64 (cO X 0)):=h.store.latest
 obtain⟨o0,ho0⟩:∃ o0,o0=cO X 0:=⟨_,rfl⟩
 rw[←ho0] at c0
 have HO0:=af ho0
 clear h ho0
 go_enter Tryz.func64,Tryz.ntmps64
 go_wp2_with fail
 go_loop [3,4] (fun t i=>∃ k:Nat,k≤8∧i=.int .i64 k∧t=.int .i64 (cO X k)) (fun _ i=>8 - (intOf i).toNat)
 case atStart=>exact⟨0,by omega,rfl,by rw[HO0.out]⟩
 case round=>
  obtain⟨k,hk,rfl,rfl⟩:=hrel
  by_cases hlt:k<8
  ·obtain⟨d0,d1⟩:=HN.out k hlt
   have HSU:Hid (cO X (k+1)=if 0<(X.ses k).num∧(X.ses k).snap<cO X k then (X.ses k).snap else cO X k):=af rfl
   obtain⟨nn,hnn⟩:∃ nn,nn=(X.ses k).num:=⟨_,rfl⟩
   obtain⟨sn,hsn⟩:∃ sn,sn=(X.ses k).snap:=⟨_,rfl⟩
   obtain⟨od,hod⟩:∃ od,od=cO X k:=⟨_,rfl⟩
   rw[←hnn,←hsn,←hod] at HSU
   rw[←hnn] at d0
   rw[←hsn] at d1
   rw[←hod]
   clear hnn hsn hod
   by_cases h1:0<nn
   ·by_cases h2:sn<od
    ·have HS2:Hid (cO X (k+1)=sn):=af (by rw[HSU.out,if_pos ⟨h1,h2⟩])
     go_wp2
     go_round
     case rel=>exact⟨k+1,by omega,by go_num,by rw[HS2.out]⟩
     case measure=>simp[intOf];omega
    ·have HS2:Hid (cO X (k+1)=od):=af (by rw[HSU.out,if_neg (fun h=>h2 h.2)])
     go_wp2
     go_round
     case rel=>exact⟨k+1,by omega,by go_num,by rw[HS2.out]⟩
     case measure=>simp[intOf];omega
   ·have HS2:Hid (cO X (k+1)=od):=af (by rw[HSU.out,if_neg (fun h=>h1 h.1)])
    go_wp2
    go_round
    case rel=>exact⟨k+1,by omega,by go_num,by rw[HS2.out]⟩
    case measure=>simp[intOf];omega
  ·have e:k=8:=by omega
   subst e
   go_wp2
   go_ret
   exact⟨rfl,rfl⟩
theorem qW (x:Nat)(X:ap)(f:List Nat)(w:World)(h:aV x X w f)(hn:f.Nodup)(hl:∀ c,c<60→((X.hist c).length+1)*24≤140737488355328)(hm:keptN X 60≤9223372036854775807):
  Calls Tryz.prog 30 #[.pointer (some ⟨x,0,none⟩)] w fun e w'=>e=.returned (.int .i64 (cq X).1)∧bP (aV x (cq X).2) f w w':=by
 have HO:Hid (Calls Tryz.prog 64 #[.pointer (some ⟨x,0,none⟩)] w fun e w'=>e=.returned (.int .i64 (cO X 8))∧w'=w):=af (by
  obtain⟨kv,hk⟩:=h
  exact wW x X kv w hk.1)
 have HS:=af (wY x X (cO X 8) f w h hn hl hm)
 unfold cq
 have e1:(keptN X 60:Int) - (keptN (X.swept (cO X 8)) 60:Int)=jQ X (cO X 8) 60:=rfl
 rw[e1]
 clear h hn hl hm e1
 generalize cO X 8=od at HO HS ⊢
 generalize jQ X od 60=dr at HS ⊢
 go_enter Tryz.func30,Tryz.ntmps30
 go_wp2_with fail
 go_at_call 64
 refine HO.out.mono ?_
 rintro e w1 ⟨rfl,rfl⟩
 go_wp2_with fail
 go_at_call 65
 refine HS.out.mono ?_
 rintro e w2 ⟨rfl,ht⟩
 have HT:=af ht
 clear ht
 go_wp2_with fail
 go_ret
 exact⟨rfl,HT.out⟩
theorem zP (x:Nat)(X:ap)(f:List Nat)(w:World)(h:aV x X w f)(hm:keptN X 60≤9223372036854775807):
  Calls Tryz.prog 10 #[.pointer (some ⟨x,0,none⟩)] w fun e w'=>e=.returned (.int .i64 (keptN X 60:Nat))∧w'=w:=by
 have HK:Hid (Calls Tryz.prog 32 #[.pointer (some ⟨x,1955,none⟩)] w fun e w'=>e=.returned (.int .i64 (keptN X 60:Nat))∧w'=w):=af (by
  obtain⟨kv,hk⟩:=h
  exact vX x 1955 X kv w hk.1.store hk.rows hm)
 clear h hm
 generalize keptN X 60=kn at HK ⊢
 go_enter Tryz.func10,Tryz.ntmps10
 go_wp2_with fail
 go_at_call 32
 refine HK.out.mono ?_
 rintro e w1 ⟨rfl,rfl⟩
 go_wp2_with fail
 go_ret
 exact⟨rfl,rfl⟩
theorem vi (x:Nat)(X:ap)(f:List Nat)(m:Nat)(w:World)(h:aV x X w f)(hn:f.Nodup)(hl:∀ c,c<60→((X.hist c).length+1)*24≤140737488355328)(hm:keptN X 60+m≤9223372036854775807):
  Calls Tryz.prog 51 #[.pointer (some ⟨x,0,none⟩),.int .i64 m] w fun e w'=>e=.returned (.bool (cL X m).1)∧bP (aV x (cL X m).2) f w w':=by
 have HK:Hid (Calls Tryz.prog 32 #[.pointer (some ⟨x,1955,none⟩)] w fun e w'=>e=.returned (.int .i64 (keptN X 60:Nat))∧w'=w):=af (by
  obtain⟨kv,hk⟩:=h
  exact vX x 1955 X kv w hk.1.store hk.rows (by omega))
 have HS:=af (qW x X f w h hn hl (by omega))
 have HPA:=af h
 have c1:w.cell? ⟨x,1,none⟩=some (.int .i64 X.room):=by
  obtain⟨kv,hk⟩:=h
  exact hk.1.room
 have HC2:Hid (∀ w',bP (aV x (cq X).2) f w w'→w'.cell? ⟨x,1,none⟩=some (.int .i64 X.room)):=af (fun w' ht=>by
  obtain⟨f',⟨kv,hk⟩,_⟩:=ht
  exact hk.1.room)
 have hle:=gY X (cO X 8) 60
 have HRF:Hid (cL X m=if ((keptN X 60+m:Nat):Int)≤X.room then (true,X) else (decide (((keptN (X.swept (cO X 8)) 60+m:Nat):Int)≤X.room),X.swept (cO X 8))):=af rfl
 have HPS:Hid ((cq X).1=(keptN X 60:Int) - (keptN (X.swept (cO X 8)) 60:Int)):=af rfl
 have HP2:Hid ((cq X).2=X.swept (cO X 8)):=af rfl
 rw[HPS.out] at HS
 generalize keptN (X.swept (cO X 8)) 60=k2 at HS hle HRF
 generalize X.swept (cO X 8)=Y at HRF HP2
 rw[HP2.out] at HS HC2
 generalize hkn:keptN X 60=kn at HK HS hm hle HRF
 generalize hrm:X.room=rm at c1 HC2 HRF
 generalize cL X m=RF at HRF ⊢
 clear h hkn hrm hl
 by_cases hr:((kn+m:Nat):Int)≤rm
 ·have HR1:Hid (RF=(true,X)):=af (by rw[HRF.out,if_pos hr])
  have hr':(kn:Int)+(m:Int)≤rm:=by omega
  clear HRF
  go_enter Tryz.func51,Tryz.ntmps51
  go_wp2_with fail
  go_at_call 32
  refine HK.out.mono ?_
  rintro e w' ⟨rfl,rfl⟩
  go_wp2
  go_ret
  rw[HR1.out]
  exact⟨rfl,bP.refl HPA.out hn (Fr.refl _ _)⟩
 ·have hr':¬(kn:Int)+(m:Int)≤rm:=by omega
  by_cases hr2:((k2+m:Nat):Int)≤rm
  ·have HR1:Hid (RF=(true,Y)):=af (by rw[HRF.out,if_neg hr,decide_eq_true hr2])
   clear HRF
   go_enter Tryz.func51,Tryz.ntmps51
   go_wp2_with fail
   go_at_call 32
   refine HK.out.mono ?_
   rintro e w' ⟨rfl,rfl⟩
   go_wp2_with fail
   go_at_call 30
   refine HS.out.mono ?_
   rintro e w2 ⟨rfl,ht⟩
   have c2:=HC2.out _ ht
   have HT:=af ht
   clear ht
   have q2:(kn:Int) - ((kn:Int) - (k2:Int))+(m:Int)≤rm:=by omega
   go_wp2
   go_ret
   rw[HR1.out]
   exact⟨rfl,HT.out⟩
  ·have HR1:Hid (RF=(false,Y)):=af (by rw[HRF.out,if_neg hr,decide_eq_false hr2])
   clear HRF
   go_enter Tryz.func51,Tryz.ntmps51
   go_wp2_with fail
   go_at_call 32
   refine HK.out.mono ?_
   rintro e w' ⟨rfl,rfl⟩
   go_wp2_with fail
   go_at_call 30
   refine HS.out.mono ?_
   rintro e w2 ⟨rfl,ht⟩
   have c2:=HC2.out _ ht
   have HT:=af ht
   clear ht
   have q2:¬(kn:Int) - ((kn:Int) - (k2:Int))+(m:Int)≤rm:=by omega
   have Q2:=af q2
   clear q2
   go_wp2
   go_ret
   rw[HR1.out]
   exact⟨by show Ending.returned (Value.bool (decide _))=_;rw[decide_eq_false (Int.not_le.mpr Q2.out)],HT.out⟩
end Go.Proofs.YthlhbjnkohinmabGreat
