import Derived.Test.YthlhbjnkohinmaaGreatP35
import Derived.Test.YthlhbjnkohinmaaGreatP19
namespace Go.Proofs.YthlhbjnkohinmaaGreat
set_option maxRecDepth 100000
set_option maxHeartbeats 8000000
open Go.RowKit
def nE (L:List In) (fd:In→Bool) (i:Nat):List In:=(L.take i).filter fun z=>!fd z
theorem C7 (L:List In) (fd:In→Bool) (i:Nat) (hi:i<L.length):nE L fd (i+1)=nE L fd i++(if fd L[i] then [] else [L[i]]):=by
 unfold nE
 rw[List.take_succ_eq_append_getElem hi,List.filter_append]
 congr 1
 cases h:fd L[i] <;> simp[h]
theorem Du (y:Nat) (com:List (List Wr)) (S:br) (p:Value) (a:Option Addr) (cp:Nat) (cs:List Value) (fc fp:List Nat) (s:ByteArray) (R:List ax) (ra:Option Addr) (rc:Nat) (xs:List Value) (F:List au) (L:List In) (lt:In→In→Bool) (fd:In→Bool) (w:World)
  (hE:im y com S p a cp cs fc fp w) (hA:lK y s R ra rc xs w) (hk:oK com S)
  (HFI:Hid (∀ i∈L,∀ W,w.grownBy W none→Calls Tryz.prog 92 #[.pointer (some ⟨y,0,none⟩),p,ep i] W fun e w'=>e=.returned (.bool (fd i))∧W.grownBy w' none))
  (hFA:Hid (Calls Tryz.prog 51 #[.pointer (some ⟨y,0,none⟩),p] w fun e w'=>∃ v,e=.returned v∧w'.ownsRow w.heap.size 9 1 v F.length (gC F)∧w.grownBy w' none))
  (hALL:Hid (∀ (fa:Option Addr) (fcp:Nat) (W:World),w.grownBy W none→W.ownsRow 0 9 1 (.slice fa F.length fcp) F.length (gC F)→Calls Tryz.prog 91 #[.slice ra R.length rc,.slice fa F.length fcp] W fun e w'=>∃ v,e=.returned v∧w'.ownsRow W.heap.size 136 6 v L.length (aH L)∧W.grownBy w' none))
  (hw:w8 lt) (hLn:L.length≤10000000000) (hL:∀ i∈L,i.facts.length≤100∧i.rule<R.length∧i.rule≤9)
  (hlt:∀ k (h1:k<L.length) i (h2:i<L.length),i<k→kh (eh s R L[k].rule) (eh s R L[i].rule) (gO com S L[k].facts) (gO com S L[i].facts) L[k].rule L[i].rule (E8 (bA L[k].facts) (bA L[i].facts))=lt L[k] L[i]) :
  Calls Tryz.prog 63 #[.pointer (some ⟨y,0,none⟩),p] w fun e w'=>∃ v,e=.returned v∧w'.ownsRow w.heap.size 136 6 v (nE L fd L.length).length (aH (bK lt (nE L fd L.length)))∧w.grownBy w' none:=by
 obtain⟨i0,hi0,hz0,hz1,hz2⟩:=info_parts Tryz.info136
 have HE:=af hE
 have HA:=af hA
 have c0:=hA.cell
 have HAH:Hid (∀ i∈L,∀ j∈L,∀ W,w.grownBy W none→Calls Tryz.prog 93 #[.pointer (some ⟨y,0,none⟩),p,ep i,ep j] W fun e w'=>e=.returned (.bool (kh (eh s R i.rule) (eh s R j.rule) (gO com S i.facts) (gO com S j.facts) i.rule j.rule (E8 (bA i.facts) (bA j.facts))))∧W.grownBy w' none):=af (fun i hi j hj W hW=>zP y com S p a cp cs fc fp s R ra rc xs i j W (hE.kept hW) (hA.kept hW) hk (hL i hi).1 (hL j hj).1 (hL i hi).2.1 (hL j hj).2.1)
 have HLT:=af hlt
 have HW:=af hw
 clear hE hA hk hL hlt hw
 go_enter Tryz.func63,Tryz.ntmps63
 go_wp2_with fail
 go_at_call 51
 refine hFA.out.mono ?_
 rintro er w1 ⟨fv,rfl,hof,hg1⟩
 obtain⟨fa,fm,fcp,rfl⟩:=an hof
 have em:=ar hof
 subst em
 have HC:=af (hALL.out fa fcp w1 hg1 (bO hof (Nat.zero_le _)))
 have d0:=am hg1 c0
 have HG1:=af hg1
 clear hof hg1 hFA hALL
 go_wp2_with fail
 go_at_call 91
 refine HC.out.mono ?_
 rintro er w2 ⟨lv,rfl,hol,hg2⟩
 obtain⟨la,lm,lcp,rfl⟩:=an hol
 have em:=ar hol
 subst em
 have HG2:=af (ae HG1.out hg2)
 have HOL:=af hol
 clear HC hol hg2 d0 c0
 go_wp2_with fail
 go_loopw [7,8] (fun v t wr=>∃ i:Nat,i≤L.length∧t=.int .i64 i∧wr.ownsRow w2.heap.size 136 6 v (nE L fd i).length (aH (bK lt (nE L fd i)))∧w2.grownBy wr none) (fun _ t _=>L.length - (intOf t).toNat)
 case atStart=>exact⟨0,by omega,rfl,World.ownsRow_nil _ _ _ _,ag _ _⟩
 case round=>
  obtain⟨i,hi,rfl,hown,hg⟩:=hrel
  generalize wr=W3 at*
  have HG:=af hg
  have HOW:=af hown
  by_cases hltI:i<L.length
  ·have how:=aq HOL.out hg (fun g hg=>by cases hg)
   obtain⟨gl,hla,_,_,hgl,hcell⟩:=aC how (by omega)
   subst hla
   obtain⟨x0,x1,x2,x3,x4,x5⟩:=gq L i hltI
   have d0:=hcell _ _ x0
   have d1:=hcell _ _ x1
   have d2:=hcell _ _ x2
   have d3:=hcell _ _ x3
   have d4:=hcell _ _ x4
   have d5:=hcell _ _ x5
   have hmem:L[i]∈L:=List.getElem_mem hltI
   have HC:=af (HFI.out L[i] hmem W3 (ae HG2.out hg))
   have HSN:=af (ld (bK lt (nE L fd i)) L[i])
   have hol:(bK lt (nE L fd i)).length=(nE L fd i).length:=dO _
   have hfle:(nE L fd i).length≤i:=Nat.le_trans (List.length_filter_le _ _) (List.length_take_le i L)
   have HFS:=af (C7 L fd i hltI)
   have HIS:Hid (fd L[i]=false→bK lt (nE L fd (i+1))=fJ lt L[i] (bK lt (nE L fd i))):=af (fun e=>by rw[HFS.out,e,if_neg (by simp),qO])
   have HFL1:Hid (fd L[i]=false→(nE L fd (i+1)).length=(nE L fd i).length+1):=af (fun e=>by rw[HFS.out,e];simp)
   have HFL0:Hid (fd L[i]=true→nE L fd (i+1)=nE L fd i):=af (fun e=>by rw[HFS.out,e];simp)
   have HSO:=af (s8 HW.out (nE L fd i))
   have HMEM:Hid (∀ z∈bK lt (nE L fd i),z∈L∧kh (eh s R L[i].rule) (eh s R z.rule) (gO com S L[i].facts) (gO com S z.facts) L[i].rule z.rule (E8 (bA L[i].facts) (bA z.facts))=lt L[i] z):=af (fun z hz=>by
    have hz2:=(List.mem_filter.mp (lz.mp hz)).1
    obtain⟨q,hq,rfl⟩:=List.mem_iff_getElem.mp hz2
    have hq2:q<i:=by simp at hq;omega
    have hq3:q<L.length:=by omega
    have e:(L.take i)[q]=L[q]:=by simp
    rw[e]
    exact⟨List.getElem_mem hq3,HLT.out i hltI q hq3 hq2⟩)
   unfold ep at HC
   obtain⟨it,hit⟩:∃ it,it=L[i]:=⟨_,rfl⟩
   rw[←hit] at HC HSN HIS HMEM HFL1 HFL0 hmem d0 d1 d2 d3 d4 d5
   obtain⟨O,hO⟩:∃ O,O=bK lt (nE L fd i):=⟨_,rfl⟩
   rw[←hO] at HSN HIS HMEM HSO hol HOW
   obtain⟨ok0,hok0⟩:∃ ok0,ok0=fd it:=⟨_,rfl⟩
   rw[←hok0] at HC HIS HFL1 HFL0
   obtain⟨ru,hru⟩:∃ ru:Int,ru=it.rule:=⟨_,rfl⟩
   obtain⟨e0,he0⟩:∃ e0,e0=eI it.env 0:=⟨_,rfl⟩
   obtain⟨e1,he1⟩:∃ e1,e1=eI it.env 1:=⟨_,rfl⟩
   obtain⟨e2,he2⟩:∃ e2,e2=eI it.env 2:=⟨_,rfl⟩
   obtain⟨e3,he3⟩:∃ e3,e3=eI it.env 3:=⟨_,rfl⟩
   obtain⟨ft,hft⟩:∃ ft,ft=bA it.facts:=⟨_,rfl⟩
   have HIT:Hid (ru=it.rule∧e0=eI it.env 0∧e1=eI it.env 1∧e2=eI it.env 2∧e3=eI it.env 3∧ft=bA it.facts):=af ⟨hru,he0,he1,he2,he3,hft⟩
   rw[←hru,←he0,←he1,←he2,←he3,←hft] at HC HSN
   rw[←hru] at d0
   rw[←he0] at d1
   rw[←he1] at d2
   rw[←he2] at d3
   rw[←he3] at d4
   rw[←hft] at d5
   obtain⟨av,mv,cv,rfl⟩:=an hown
   have em:=ar hown
   subst em
   obtain⟨mv,hmv⟩:∃ mv,mv=(nE L fd i).length:=⟨_,rfl⟩
   rw[←hmv] at hol hfle HFL1 HOW ⊢
   have HOO:=af hO
   have HMV:=af hmv
   clear how hcell x0 x1 x2 x3 x4 x5 hown hg hit hO hru he0 he1 he2 he3 hft hok0 hmv
   go_wp2_with fail
   go_at_call 92
   refine HC.out.mono ?_
   rintro er w4 ⟨rfl,hg4⟩
   have c0:=am hg4 d0
   have c1:=am hg4 d1
   have c2:=am hg4 d2
   have c3:=am hg4 d3
   have c4:=am hg4 d4
   have c5:=am hg4 d5
   have how4:=aq HOW.out hg4 (fun g hg=>by cases hg)
   have HG4:=af (ae HG.out hg4)
   have hs4:=HG4.out.size
   have HO4:=af how4
   clear d0 d1 d2 d3 d4 d5 hg4 HC
   cases ok0 with
   |true=>
    have HZ:=af (HFL0.out rfl)
    clear how4 HIS HFL1 HFL0
    go_wp2_with fail
    go_roundw
    case rel=>exact⟨i+1,by omega,by go_num,by rw[HZ.out,←HMV.out,←HOO.out];exact HO4.out,HG4.out⟩
    case measure=>simp[intOf];omega
   |false=>
   have HIS1:=af (HIS.out rfl)
   have HFLL:=af (HFL1.out rfl)
   clear HIS HFL1 HFL0
   go_wp2_with (first|(at_builtin;refine wpList_append_own _ rfl (.tmp 36) (.tmp 41) 130 rfl (w2.heap.size) 136 i0 (.agg #[.int .i64 0,.int .i64 0,.int .i64 0,.int .i64 0,.int .i64 0,.string ByteArray.empty]) 6 56 Tryz.underlying130 hi0 hz0 hz1 hz2 rfl (by decide) _ _ _ rfl (how4.alloc _) _ 1 1 [.int .i64 ru,.int .i64 e0,.int .i64 e1,.int .i64 e2,.int .i64 e3,.string ft] rfl rfl ?c1 ?c2 ?c3 ?c4 ?c5 ?_))
   case c1=>intro j u hj;exact bj hj
   case c2=>intro u hu;simp at hu;rcases hu with h|h|h|h|h|h <;> subst h <;> rfl
   case c3=>unfold maxLen;omega
   case c4=>omega
   case c5=>simp;omega
   ·intro v' w5 hown5 hg5 _
    have HG5:Hid (w2.grownBy w5 none):=af (aK (ab HG4.out _) hg5 (fun g hg=>(HO4.out.lt g hg).1))
    have HO5:Hid (w5.ownsRow w2.heap.size 136 6 v' (mv+1) (aH (O.take O.length++it::O.drop O.length))):=af (by
     rw[List.take_length,List.drop_length,HSN.out]
     exact hown5)
    clear hown5 hg5 how4 c0 c1 c2 c3 c4 c5
    obtain⟨va,vm,vc,rfl⟩:=an HO5.out
    have em:=ar HO5.out
    subst em
    obtain⟨gv,hva,_,hgvb,_,_⟩:=aC HO5.out (by omega)
    subst hva
    go_wp2_with fail
    have HPUT:Hid (∀ k,k≤O.length→(∀ b∈O.drop k,lt it b=true)→(k=0∨∃ h:k - 1<O.length,lt it O[k - 1]=false)→aH (O.take k++it::O.drop k)=aH (bK lt (nE L fd (i+1)))):=af (fun k hk h1 h2=>by rw[HIS1.out,ym HW.out it O k hk HSO.out h1 h2])
    go_loopw [10] (fun t wr2=>∃ k:Nat,k≤O.length∧t=.int .i64 k∧wr2.ownsRow w2.heap.size 136 6 (.slice (some ⟨gv,0,none⟩) (mv+1) vc) (mv+1) (aH (O.take k++it::O.drop k))∧w2.grownBy wr2 none∧∀ b∈O.drop k,lt it b=true) (fun t _=>(intOf t).toNat)
    case atStart=>exact⟨O.length,Nat.le_refl _,by rw[hol],HO5.out,HG5.out,by simp⟩
    case round=>
     obtain⟨k,hkO,rfl,hrow,hgr,hall⟩:=hrel
     have HALL:=af hall
     have HGR:=af hgr
     have HROW:=af hrow
     clear hall
     cases k with
     |zero=>
      have HX:=af (HPUT.out 0 (Nat.zero_le _) HALL.out (.inl rfl))
      have HFIN:Hid (wr.ownsRow w2.heap.size 136 6 (.slice (some ⟨gv,0,none⟩) (mv+1) vc) (mv+1) (aH (bK lt (nE L fd (i+1))))):=af (by rw[←HX.out];exact HROW.out)
      clear hrow hgr
      go_wp2_with fail
      go_roundw
      case rel=>exact⟨i+1,by omega,by go_num,by rw[HFLL.out];exact HFIN.out,HGR.out⟩
      case measure=>simp[intOf];omega
     |succ m=>
      have hmO:m<O.length:=by omega
      obtain⟨_,hx1,hx2⟩:=DY (x:=it) hkO
      obtain⟨hy1,hy2⟩:=BP (x:=it) hmO
      obtain⟨s1,s2⟩:=Ct (x:=it) hmO
      obtain⟨x0,x1,x2,x3,x4,x5⟩:=gq _ (m+1) hx1
      obtain⟨y0,y1,y2,y3,y4,y5⟩:=gq _ m hy1
      rw[hx2] at x0 x1 x2 x3 x4 x5
      rw[hy2] at y0 y1 y2 y3 y4 y5
      obtain⟨gv',hgv',_,_,hgvl,hcell⟩:=aC hrow (by omega)
      simp only[Option.some.injEq,Addr.mk.injEq,and_true] at hgv'
      subst hgv'
      have a0:=hcell _ _ x0
      have a1:=hcell _ _ x1
      have a2:=hcell _ _ x2
      have a3:=hcell _ _ x3
      have a4:=hcell _ _ x4
      have a5:=hcell _ _ x5
      have b0:=hcell _ _ y0
      have b1:=hcell _ _ y1
      have b2:=hcell _ _ y2
      have b3:=hcell _ _ y3
      have b4:=hcell _ _ y4
      have b5:=hcell _ _ y5
      have HSW:Hid (pf (aH (O.take (m+1)++it::O.drop (m+1))) m O[m] it=aH (O.take m++it::O.drop m)):=af (by rw[s1,s2];exact xf _ _ _ _ m (by simp;omega))
      obtain⟨hzL,hzA⟩:=HMEM.out O[m] (List.getElem_mem hmO)
      have HC:=af (HAH.out it hmem O[m] hzL wr.drew (al (ae HG2.out hgr) 1))
      rw[hzA] at HC
      have HDR:Hid (lt it O[m]=true→∀ b∈O.drop m,lt it b=true):=af (fun h b hb=>by
       rw[List.drop_eq_getElem_cons hmO] at hb
       rcases List.mem_cons.mp hb with rfl|hb
       ·exact h
       ·exact HALL.out b hb)
      have HX:Hid (lt it O[m]=false→aH (O.take (m+1)++it::O.drop (m+1))=aH (bK lt (nE L fd (i+1)))):=af (fun h=>HPUT.out (m+1) hkO HALL.out (.inr ⟨hmO,by simpa using h⟩))
      obtain⟨hr0,hr1,hr2,hr3,hr4,hr5⟩:=HIT.out
      obtain⟨zz,hzz⟩:∃ zz,zz=O[m]:=⟨_,rfl⟩
      rw[←hzz] at b0 b1 b2 b3 b4 b5 HSW HC HDR HX
      obtain⟨zr,hzr⟩:∃ zr:Int,zr=zz.rule:=⟨_,rfl⟩
      obtain⟨z0,hz0'⟩:∃ z0,z0=eI zz.env 0:=⟨_,rfl⟩
      obtain⟨z1,hz1'⟩:∃ z1,z1=eI zz.env 1:=⟨_,rfl⟩
      obtain⟨z2,hz2'⟩:∃ z2,z2=eI zz.env 2:=⟨_,rfl⟩
      obtain⟨z3,hz3'⟩:∃ z3,z3=eI zz.env 3:=⟨_,rfl⟩
      obtain⟨zf,hzf⟩:∃ zf,zf=bA zz.facts:=⟨_,rfl⟩
      unfold ep at HC
      unfold pf at HSW
      rw[←hr0,←hr1,←hr2,←hr3,←hr4,←hr5,←hzr,←hz0',←hz1',←hz2',←hz3',←hzf] at HC HSW
      rw[←hr0] at a0
      rw[←hr1] at a1
      rw[←hr2] at a2
      rw[←hr3] at a3
      rw[←hr4] at a4
      rw[←hr5] at a5
      rw[←hzr] at b0
      rw[←hz0'] at b1
      rw[←hz1'] at b2
      rw[←hz2'] at b3
      rw[←hz3'] at b4
      rw[←hzf] at b5
      obtain⟨ok,hok⟩:∃ ok,ok=lt it zz:=⟨_,rfl⟩
      rw[←hok] at HC HDR HX
      have i1:(0:Int)≤(m:Int)+1:=by omega
      have i2:(m:Int)+1<(mv:Int)+1:=by omega
      have i3:(m:Int)<(mv:Int)+1:=by omega
      have i4:((m:Int)+1).toNat=m+1:=by omega
      have i5:IntKind.i64.wrap ((m:Int)+1 - 1)=(m:Int):=by rw[show ((m:Int)+1 - 1)=(m:Int) by omega];exact Go.IntWalk.i64_in _ (by omega)
      have i6:IntKind.i64.wrap (m:Int)=(m:Int):=Go.IntWalk.i64_in _ (by omega)
      rw[show ((m+1:Nat):Int)=(m:Int)+1 by omega]
      have HGRO:Hid (∀ w5,Fr [] wr w5→w2.grownBy w5 none):=af (fun w5 h=>ae HGR.out (bG h))
      have HRK:Hid (∀ w5,Fr [] wr w5→w5.ownsRow w2.heap.size 136 6 (.slice (some ⟨gv,0,none⟩) (mv+1) vc) (mv+1) (aH (O.take (m+1)++it::O.drop (m+1)))):=af (fun w5 h=>aq HROW.out (bG h) (fun g hg=>by cases hg))
      clear hzz hzr hz0' hz1' hz2' hz3' hzf hr0 hr1 hr2 hr3 hr4 hr5 hok hcell x0 x1 x2 x3 x4 x5 y0 y1 y2 y3 y4 y5 hrow hgr s1 s2 hx1 hx2 hy1 hy2 hzA hzL
      go_wp2_with fail
      go_region_held3 (fun W=>W.cell? ⟨gv,(m+1)*6,none⟩=some (.int .i64 ru)∧W.cell? ⟨gv,(m+1)*6+1,none⟩=some (.int .i64 e0)∧W.cell? ⟨gv,(m+1)*6+2,none⟩=some (.int .i64 e1)∧W.cell? ⟨gv,(m+1)*6+3,none⟩=some (.int .i64 e2)∧W.cell? ⟨gv,(m+1)*6+4,none⟩=some (.int .i64 e3)∧W.cell? ⟨gv,(m+1)*6+5,none⟩=some (.string ft)∧W.cell? ⟨gv,m*6,none⟩=some (.int .i64 zr)∧W.cell? ⟨gv,m*6+1,none⟩=some (.int .i64 z0)∧W.cell? ⟨gv,m*6+2,none⟩=some (.int .i64 z1)∧W.cell? ⟨gv,m*6+3,none⟩=some (.int .i64 z2)∧W.cell? ⟨gv,m*6+4,none⟩=some (.int .i64 z3)∧W.cell? ⟨gv,m*6+5,none⟩=some (.string zf)) (first|(with_reducible exact⟨pa0,pa1,pa2,pa3,pa4,pa5,pb0,pb1,pb2,pb3,pb4,pb5⟩)|(simp only[World.cell?_drew];with_reducible exact⟨a0,a1,a2,a3,a4,a5,b0,b1,b2,b3,b4,b5⟩)) (first
       |(go_at_call 93
         refine (HC.out).mono ?_
         rintro er w6 ⟨rfl,hg6⟩
         have hfr6:Fr [] wr w6:=(as (Fr.refl [] wr)).trans (aJ hg6)
         have pa0:=aB hfr6 a0
         have pa1:=aB hfr6 a1
         have pa2:=aB hfr6 a2
         have pa3:=aB hfr6 a3
         have pa4:=aB hfr6 a4
         have pa5:=aB hfr6 a5
         have pb0:=aB hfr6 b0
         have pb1:=aB hfr6 b1
         have pb2:=aB hfr6 b2
         have pb3:=aB hfr6 b3
         have pb4:=aB hfr6 b4
         have pb5:=aB hfr6 b5
         have HF6:=af hfr6
         clear hfr6 hg6))
      cases ok with
      |false=>
       have HX2:=af (HX.out rfl)
       have HFIN:Hid (w6.ownsRow w2.heap.size 136 6 (.slice (some ⟨gv,0,none⟩) (mv+1) vc) (mv+1) (aH (bK lt (nE L fd (i+1))))):=af (by rw[←HX2.out];exact HRK.out _ HF6.out)
       go_wp2_with fail
       go_roundw
       case rel=>exact⟨i+1,by omega,by go_num,by rw[HFLL.out];exact HFIN.out,HGRO.out _ HF6.out⟩
       case measure=>simp[intOf];omega
      |true=>
       have hrow6:=HRK.out _ HF6.out
       have f0:=eN hrow6 ((m+1)*6)
       have f1:=eN hrow6 ((m+1)*6+1)
       have f2:=eN hrow6 ((m+1)*6+2)
       have f3:=eN hrow6 ((m+1)*6+3)
       have f4:=eN hrow6 ((m+1)*6+4)
       have f5:=eN hrow6 ((m+1)*6+5)
       have g0:=eN hrow6 (m*6)
       have g1:=eN hrow6 (m*6+1)
       have g2:=eN hrow6 (m*6+2)
       have g3:=eN hrow6 (m*6+3)
       have g4:=eN hrow6 (m*6+4)
       have g5:=eN hrow6 (m*6+5)
       have gv6:gv<w6.heap.size:=(hrow6.lt gv rfl).2
       have gvn:gv≠w6.heap.size:=by omega
       have HR6:=af hrow6
       have HGVB:=af (hrow6.lt gv rfl).1
       clear hrow6
       go_wp2_with fail
       go_roundw
       case rel=>
        refine⟨m,by omega,rfl,?_,?_,HDR.out rfl⟩
        ·rw[←HSW.out]
         exact (fT (fT (fT (fT (fT (fT (fT (fT (fT (fT (fT (fT HR6.out _) _) _) _) _) _) _) _) _) _) _) _).alloc _
        ·exact ab (aj (aj (aj (aj (aj (aj (aj (aj (aj (aj (aj (aj (HGRO.out _ HF6.out) (.inr HGVB.out) _) (.inr HGVB.out) _) (.inr HGVB.out) _) (.inr HGVB.out) _) (.inr HGVB.out) _) (.inr HGVB.out) _) (.inr HGVB.out) _) (.inr HGVB.out) _) (.inr HGVB.out) _) (.inr HGVB.out) _) (.inr HGVB.out) _) (.inr HGVB.out) _) _
       case measure=>simp[intOf]
  ·have ei:i=L.length:=by omega
   subst ei
   clear hown hg
   go_wp2_with fail
   go_ret
   exact⟨_,rfl,bO HOW.out HG2.out.size,ae HG2.out HG.out⟩
end Go.Proofs.YthlhbjnkohinmaaGreat
