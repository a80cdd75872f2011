import Derived.Test.YthlhbjnkohinmaaGreatP28
import Derived.Test.YthlhbjnkohinmaaGreatP49
namespace Go.Proofs.YthlhbjnkohinmaaGreat
set_option maxRecDepth 100000
set_option maxHeartbeats 8000000
open Go.RowKit
theorem tz {Q:Value→eW}(hQ:∀ v,bT (Q v))(hQw:∀ v,bW (Q v)){y:Nat}{E:bm}{w:World}{f:List Nat}(n:Int)(hE:bJ Q y E w f)(hn:f.Nodup)(hW:kz E)(hroom:1≤E.room∧E.room≤999)(hkept:E.kept.length≤999)(hcl:(E.com.length+1)*24≤140737488355328):
  Calls Tryz.prog 30 #[.pointer (some ⟨y,0,none⟩),.int .i64 n] w fun e w'=>e=.returned (.tuple #[.int .i64 (cH E n).1.1,.int .i64 (cH E n).1.2])∧gk Q y (cH E n).2 f w w':=by
 have hE0:=hE
 obtain⟨rv,cv,kv,ov,cs,ps,f1,f2,⟨hb,rfl⟩,⟨f3,f4,_,⟨f5,f6,⟨hcr,_⟩,⟨f7,f8,hcom,⟨f9,f10,⟨hkr,_⟩,⟨f11,f12,⟨hor,_⟩,hses,_⟩,_⟩,_⟩,_⟩,_⟩,_⟩:=hE0
 obtain⟨ac,mc,cc,rfl⟩:=an hcr
 obtain⟨ak,mk,ck,rfl⟩:=an hkr
 obtain⟨ao,mo,co,rfl⟩:=an hor
 have emc:=au hcr
 have emk:=au hkr
 subst emc
 subst emk
 have c1:w.cell? ⟨y,1,none⟩=some (.int .i64 E.room):=by rw[cell_of_row _ _ _ _ _ _ hb];rfl
 have c2:w.cell? ⟨y,2,none⟩=some (.slice ac E.com.length cc):=by rw[cell_of_row _ _ _ _ _ _ hb];rfl
 have c3:w.cell? ⟨y,3,none⟩=some (.slice ak E.kept.length ck):=by rw[cell_of_row _ _ _ _ _ _ hb];rfl
 have d4:w.cell? ⟨y,4,none⟩=some (.slice ao mo co):=by rw[cell_of_row _ _ _ _ _ _ hb];rfl
 have HF:=af (dR y E.opn ps f12 n ao mo co w d4 hor hses (by have:=hW.opnLen;omega))
 have HSES:=af hses
 have HCOM:=af hcom
 have HCR:=af hcr
 have hyl:=lt_of_block hb
 have hcl2:=hW.comLen
 obtain⟨r1,hr1⟩:∃ r1,r1=(cH E n).1.1:=⟨_,rfl⟩
 obtain⟨r2,hr2⟩:∃ r2,r2=(cH E n).1.2:=⟨_,rfl⟩
 obtain⟨EE,hEE⟩:∃ EE,EE=(cH E n).2:=⟨_,rfl⟩
 rw[←hr1,←hr2,←hEE]
 have HRES:Hid ((r1,r2)=(cH E n).1∧EE=(cH E n).2):=af ⟨by rw[hr1,hr2],hEE⟩
 have HE:=af hE
 have HEND:=af (fun W (hF:Fr [] w W)=>mO hQ hQw n (bJ.framed hQ _ _ hE hF (by simp)) hn hW.opnLen)
 have HSWP:=af (fun W (hF:Fr [] w W)=>pX hQ hQw (bJ.framed hQ _ _ hE hF (by simp)) hn hW (by omega))
 clear hr1 hr2 hEE hb hses hcom hcr hkr d4 hor hE
 go_enter Tryz.func30,Tryz.ntmps30
 go_wp2_with fail
 go_at_call 44
 refine HF.out.mono ?_
 rintro e w' ⟨⟨u,rfl,hans⟩,rfl⟩
 rcases hans with ⟨k,h1,h2,hn1,hn2,rfl⟩|⟨hno,rfl⟩
 ·obtain⟨fp,hse,_⟩:=aB.get HSES.out k h2 h1
  have hS:E.opn[k]∈E.opn:=List.getElem_mem h1
  have HNW:=af (tU E.opn[k] ps[k] fp _ hse (hW.wrLen _ hS))
  have hlen60:(aQ E.opn[k].wr).length≤60:=lY _ 60
  have hRC:cH E n=if d9 E E.opn[k] then ((0,10),dF E n) else if (aQ E.opn[k].wr).isEmpty then ((0,0),dF E n) else if ((ed E (aQ E.opn[k].wr).length).kept.length:Int)+(aQ E.opn[k].wr).length>E.room then ((0,11),ed E (aQ E.opn[k].wr).length) else (((E.com.length:Int)+1,0),dF ((ed E (aQ E.opn[k].wr).length).commit (aQ E.opn[k].wr)) n):=by unfold cH;rw[fX h1 hn1 hn2]
  have HRC:=af hRC
  have hRCL:∀ i,pe E E.opn[k] (aQ E.opn[k].wr) i→(aQ E.opn[k].wr).length≤i→d9 E E.opn[k]=false:=by
   intro i hi hle
   unfold d9
   rw[List.any_eq_false]
   intro p hp
   obtain⟨j,hj,rfl⟩:=List.mem_iff_getElem.mp hp
   simpa using hi j hj (by omega)
  have hRCT:∀ j (h:j<(aQ E.opn[k].wr).length),(dK E.com (aQ E.opn[k].wr)[j].1 E.com.length).2>E.opn[k].snap→d9 E E.opn[k]=true:=by
   intro j hj hgt
   unfold d9
   rw[List.any_eq_true]
   exact⟨_,List.getElem_mem hj,by simpa using hgt⟩
  have HRCL:=af hRCL
  have HRCT:=af hRCT
  obtain⟨g1,_,_,_,_,_,_,hp,hb1,_⟩:=hse.open
  have s1:w'.cell? ⟨g1,1,none⟩=some (.int .i64 E.opn[k].snap):=by rw[cell_of_row _ _ _ _ _ _ hb1];rfl
  rw[hp] at HNW ⊢
  obtain⟨sn,hsn⟩:∃ sn,sn=E.opn[k].snap:=⟨_,rfl⟩
  obtain⟨l,hl⟩:∃ l,l=aQ E.opn[k].wr:=⟨_,rfl⟩
  have HNC:Hid (∀ i,pe E E.opn[k] l i↔∀ j (h:j<l.length),j<i→¬(dK E.com l[j].1 E.com.length).2>sn):=af (fun i=>by rw[hsn];rfl)
  rw[←hl] at HNW hlen60 HRC HRCL HRCT
  rw[←hsn] at s1 HRCT
  clear hRC hRCL hRCT hse hb1 hp HF hn1 hn2 hsn hl
  go_wp2_with fail
  go_at_call 58
  refine HNW.out.mono ?_
  rintro e w1 ⟨v,rfl,hown,hg1⟩
  obtain⟨av,mv,cv',rfl⟩:=an hown
  have emv:=au hown
  subst emv
  have HFR1:=af (aK hg1)
  have HOWN:=af hown
  have HAT:Hid (∀ W,Fr [] w' W→∀ c,Calls Tryz.prog 59 #[.pointer (some ⟨y,0,none⟩),.string c,.int .i64 E.com.length] W fun e w''=>e=.returned (.tuple #[.int .i64 (dK E.com c E.com.length).1,.int .i64 (dK E.com c E.com.length).2])∧w''=W):=af (fun W hF c=>
   tK y E.com cs f7 c E.com.length ac _ cc W (iN hF c2) (bn.framed _ _ _ _ _ ⟨HCR.out,rfl⟩ hF (by simp)).1 (aB.framed im.framed _ _ HCOM.out hF (by simp)) (Nat.le_refl _) (by omega) (fun l hl=>by have:=hW.comEach l hl;omega))
  clear hown hg1 HNW
  go_wp2_with fail
  go_loopw [8] (fun t wr=>∃ i:Nat,i≤l.length∧t=.int .i64 i∧Fr [] w1 wr∧pe E E.opn[k] l i) (fun t _=>l.length - (intOf t).toNat)
  case atStart=>exact⟨0,Nat.zero_le _,rfl,Fr.refl _ _,fun j _ h=>by omega⟩
  case round=>
   obtain⟨i,hi,rfl,hfw,hnc⟩:=hrel
   have HFW:=af hfw
   have HNCi:=af hnc
   have HF0:=af (HFR1.out.trans hfw)
   clear hfw hnc
   by_cases hlt:i<l.length
   ·obtain⟨gv,rfl,_,hgb,hgl,hcell⟩:=aC HOWN.out (by omega)
    have x0:=iN HFW.out (hcell _ _ (dD l i hlt).1)
    have x2:=iN HF0.out c2
    have x1:=iN HF0.out s1
    have HATi:=af (fun W (hF:Fr [] w' W)=>HAT.out W hF l[i].1)
    have hbd:=nM E.com l[i].1 E.com.length
    obtain⟨ct,hct⟩:∃ ct,ct=l[i].1:=⟨_,rfl⟩
    obtain⟨v0,hv0⟩:∃ v0,v0=(dK E.com l[i].1 E.com.length).1:=⟨_,rfl⟩
    obtain⟨t0,ht0⟩:∃ t0,t0=(dK E.com l[i].1 E.com.length).2:=⟨_,rfl⟩
    rw[←ht0] at hbd
    rw[←hv0,←ht0] at HATi
    rw[←hct] at x0 HATi
    have HT0:=af ht0
    clear hcell hct hv0 ht0
    have hi0:(0:Int)≤(i:Int):=by omega
    have hi1:(i:Int)<(l.length:Int):=by omega
    go_wp2_with fail
    go_region_held3 (fun W=>W.cell? ⟨gv,i*2,none⟩=some (.string ct)∧W.cell? ⟨y,2,none⟩=some (.slice ac E.com.length cc)) (go_keep) (first
     |(go_at_call 59
       refine (HATi.out _ HF0.out.drew0).mono ?_
       rintro e w2 ⟨rfl,rfl⟩))
    by_cases hgt:t0>sn
    ·have HCL:Hid (d9 E E.opn[k]=true):=af (HRCT.out i hlt (by rw[←HT0.out];exact hgt))
     have HRE:Hid ((r1,r2)=((0:Int),(10:Int))∧EE=dF E n):=af (by rw[HRES.out.1,HRES.out.2,HRC.out,HCL.out];exact⟨rfl,rfl⟩)
     go_wp2_with fail
     go_at_call 52
     refine (HEND.out _ (by exact HF0.out.drew0)).mono ?_
     rintro e w3 ⟨rfl,ht3⟩
     have HT3:=af ht3
     clear ht3
     go_wp2_with fail
     go_ret2
     obtain⟨e1,e2⟩:=HRE.out
     cases e1
     refine⟨rfl,?_⟩
     rw[e2]
     exact HT3.out.back (by exact HF0.out.drew0)
    ·have HN':Hid (pe E E.opn[k] l (i+1)):=af ((HNC.out _).mpr (by
      intro j hj hji
      by_cases e:j=i
      ·subst e;rw[←HT0.out];omega
      ·exact (HNC.out i).mp HNCi.out j hj (by omega)))
     go_wp2_with fail
     go_roundw
     case rel=>exact⟨i+1,by omega,by go_num,HFW.out.drew0,HN'.out⟩
     case measure=>simp[intOf];omega
   ·have HCL:Hid (d9 E E.opn[k]=false):=af (HRCL.out i HNCi.out (by omega))
    have x1:=iN HF0.out c1
    have x3:=iN HF0.out c3
    by_cases hl0:l.length=0
    ·have HRE:Hid ((r1,r2)=((0:Int),(0:Int))∧EE=dF E n):=af (by
      have e:l=[]:=List.eq_nil_of_length_eq_zero hl0
      rw[HRES.out.1,HRES.out.2,HRC.out,HCL.out,e]
      exact⟨rfl,rfl⟩)
     have q:((l.length:Int)==0)=true:=by simp[hl0]
     go_wp2_with fail
     go_at_call 52
     refine (HEND.out _ HF0.out).mono ?_
     rintro e w3 ⟨rfl,ht3⟩
     have HT3:=af ht3
     clear ht3
     go_wp2_with fail
     go_ret2
     obtain⟨e1,e2⟩:=HRE.out
     cases e1
     refine⟨rfl,?_⟩
     rw[e2]
     exact HT3.out.back HF0.out
    ·have q:((l.length:Int)==0)=false:=by simp;intro e;rw[e] at hl0;simp at hl0
     obtain⟨rm,hrm⟩:∃ rm,rm=E.room:=⟨_,rfl⟩
     have HRM:=af hrm
     have hrm1:1≤rm∧rm≤999:=by rw[hrm];exact hroom
     rw[←hrm] at x1
     have hle0:l.isEmpty=false:=by cases l with|nil=>simp at hl0|cons a b=>rfl
     have hfl:∀ x∈f,x<w'.heap.size:=bJ.within0 hQw y E HE.out
     have hvb:∀ x∈(Value.slice av l.length cv').ownBlock.toList,w'.heap.size≤x:=by
      intro x hx
      cases hb:(Value.slice av l.length cv').ownBlock with
      |none=>rw[hb] at hx;cases hx
      |some z=>rw[hb] at hx;simp at hx;subst hx;exact (HOWN.out.lt _ hb).1
     have HVN:=af hvb
     have hrow0:wr.ownsRow 0 107 2 (.slice av l.length cv') l.length (aP l):=(bn.framed _ _ _ _ _ ⟨bN HOWN.out (Nat.zero_le _),rfl⟩ HFW.out (by simp)).1
     have HR0:=af hrow0
     have hol:=hW.opnLen
     clear hrow0 hrm
     by_cases hfit:(E.kept.length:Int)+(l.length:Int)≤rm
     ·have HRE:Hid ((r1,r2)=((E.com.length:Int)+1,(0:Int))∧EE=dF (E.commit l) n):=af (by
       have er:ed E l.length=E:=by unfold ed;rw[if_neg (by rw[←HRM.out];omega)]
       rw[HRES.out.1,HRES.out.2,HRC.out,HCL.out,hle0,er]
       have en:¬((E.kept.length:Int)+(l.length:Int)>E.room):=by rw[←HRM.out];omega
       simp only[Bool.false_eq_true,if_false,if_neg en]
       exact⟨trivial,trivial⟩)
      have HE1:Hid (bJ Q y E wr f):=af (bJ.framed hQ _ _ HE.out HF0.out (by simp))
      have hnF:f.Nodup:=hn
      have HS1:Hid (∀ x∈f,x∈f∨w'.heap.size≤x):=af (fun x hx=>.inl hx)
      have HF1:Hid (Fr f w' wr):=af (HF0.out.mono (fun k hk=>by cases hk))
      have HV1:=HR0
      have HVD:Hid (∀ x∈(Value.slice av l.length cv').ownBlock.toList,x∉f):=af (fun x hx hf=>by have:=hvb x hx;have:=hfl x hf;omega)
      have hclX:=hcl
      have hkeptX:E.kept.length≤999:=hkept
      have hWX:=hol
      have hfit':¬rm<(E.kept.length:Int)+(l.length:Int):=by omega
      clear hvb hfl
      obtain⟨i0,hi0,hz0,hz1,hz2⟩:=info_parts Tryz.info97
      obtain⟨rv2,cvv,kvv,ovv,cs2,yb,ycr,_,yin,ygo⟩:=bJ.comGrow hQ hQw HE1.out hnF
      obtain⟨acx,mcx,ccx,rfl⟩:=an ycr
      have emx:=au ycr
      subst emx
      have x2:wr.cell? ⟨y,2,none⟩=some (.slice acx E.com.length ccx):=by rw[cell_of_row _ _ _ _ _ _ yb];rfl
      have hvrow:bn 107 2 (.slice av l.length cv') l.length (aP l) wr (Value.slice av l.length cv').ownBlock.toList:=⟨HV1.out,rfl⟩
      have HGO:=af (fun g3 c' w3 w4=>ygo l (.slice av l.length cv') _ g3 c' w3 w4 hvrow (fun x hx hf=>HVD.out x hx hf) (by cases (Value.slice av l.length cv').ownBlock <;> simp))
      have HVR:=af hvrow
      have HYIN:=af yin
      have hyn:(Value.slice acx E.com.length ccx).ownBlock≠some y:=aU ycr yb (by decide)
      have HYB:=af yb
      have hylr:=lt_of_block yb
      clear ygo hvrow yin yb
      go_wp2_with fail
      go_quiet ((fail))
      go_wp2_with fail
      go_quiet ((fail))
      go_wp2_with (at_builtin;refine wpList_append_lies _ rfl (.tmp 87) (.tmp 89) 36 rfl 0 97 i0 (.slice none 0 0) 1 24 Tryz.underlying36 hi0 hz0 hz1 hz2 rfl (by decide) (.slice acx E.com.length ccx) E.com.length cs2 rfl (dn (ycr.alloc _) rfl) ⟨wr.heap.size,0,none⟩ 1 1 [.slice av l.length cv'] rfl rfl (fun j u hj=>bj hj) (fun u hu=>by simp at hu;subst hu;rfl) (by decide) (by unfold maxLen;omega) hclX (Nat.zero_le _) (wr.heap.size+1) (by simp) (fun g3 c' w3 hown3 hg3 hva hvl=>?_)
                   have hb3:w3.heap[y]?=some (.cells #[rv2,.int .i64 E.room,.slice acx E.com.length ccx,kvv,ovv,.int .i64 E.opened] 40 (0,0)):=(hg3.block y (by simp;omega) (fun e=>hyn e.symm)).trans ((Below.heap_alloc _ _ _ (by simpa using hylr)).trans HYB.out)
                   have d3:w3.cell? ⟨y,2,none⟩=some (.slice acx E.com.length ccx):=by simp[World.cell?,hb3]
                   have z3:w3.frozen? ⟨y,2,none⟩=false:=by simp[World.frozen?,hb3])
      have hfr3:Fr (Value.slice acx E.com.length ccx).ownBlock.toList wr w3:=((((Fr.refl [] wr).drewN _).alloc _).mono (fun k hk=>by cases hk)).trans (Fr.grown hg3)
      have hfr4:Fr (y::(Value.slice acx E.com.length ccx).ownBlock.toList) wr (w3.setCell ⟨y,2,none⟩ (.slice (some ⟨g3,0,none⟩) (E.com.length+1) c')):=(hfr3.mono (fun k hk=>.inl (by simp at hk ⊢;exact .inr hk))).set (.inl (by simp)) _
      obtain⟨f4,hE4,hn4,hs4⟩:=HGO.out g3 c' w3 _ (by rcases hva with h|h;·exact .inl h
                                                     ·exact .inr (by omega)) hown3 hfr3 rfl hfr4
      have hv4:=(bn.framed _ _ _ _ _ HVR.out hfr4 (fun x hx e=>by
       exact HVD.out x hx (HYIN.out x e))).1
      have HST:Hid (bJ Q y { E with com:=E.com++[l] } (w3.setCell ⟨y,2,none⟩ (.slice (some ⟨g3,0,none⟩) (E.com.length+1) c')) f4∧f4.Nodup∧(∀ x∈f4,x∈f∨w'.heap.size≤x)∧Fr f w' (w3.setCell ⟨y,2,none⟩ (.slice (some ⟨g3,0,none⟩) (E.com.length+1) c'))∧(w3.setCell ⟨y,2,none⟩ (.slice (some ⟨g3,0,none⟩) (E.com.length+1) c')).ownsRow 0 107 2 (.slice av l.length cv') l.length (aP l)):=af (by
       refine⟨hE4,hn4,fun x hx=>?_,HF1.out.then hfr4 (fun k hk=>HS1.out k (HYIN.out k hk)),hv4⟩
       rcases hs4 x hx with h|h|h
       ·exact HS1.out x h
       ·exact .inr (HVN.out x h)
       ·exact .inr (Nat.le_trans HF1.out.size h))
      have HST':Hid (jY Q y E l (.slice av l.length cv') f w' 0 (w3.setCell ⟨y,2,none⟩ (.slice (some ⟨g3,0,none⟩) (E.com.length+1) c')) f4):=af (by unfold jY;rw[yv];exact HST.out)
      obtain⟨j0,hj0,hjz0,hjz1,hjz2⟩:=info_parts Tryz.info124
      generalize w3.setCell ⟨y,2,none⟩ (.slice (some ⟨g3,0,none⟩) (E.com.length+1) c')=w4 at HST' ⊢
      clear hfr3 hfr4 hE4 hs4 hv4 hown3 hg3 hb3 d3 z3 hva HGO HST hn4 x1 x2 x3 HVR HYIN HYB hyn hylr ycr hvl HCL HNCi HFW HF0
      go_loopw [11] (fun t wr2=>∃ (i:Nat) (f5:List Nat),i≤l.length∧t=.int .i64 i∧jY Q y E l (.slice av l.length cv') f w' i wr2 f5) (fun t _=>l.length - (intOf t).toNat)
      case atStart=>exact⟨0,f4,Nat.zero_le _,rfl,HST'.out⟩
      case round=>
       obtain⟨i2,f5,hi2,rfl,hlay⟩:=hrel
       have HLAY:=af hlay
       by_cases hlt2:i2<l.length
       ·obtain⟨rv3,ac3,cc3,ak3,ck3,ov3,KC,yb3,ykr3,hnext⟩:=hlay.next hQ hQw hlt2
        have y2:wr.cell? ⟨y,2,none⟩=some (.slice ac3 (E.com.length+1) cc3):=by rw[cell_of_row _ _ _ _ _ _ yb3];rfl
        have y3:wr.cell? ⟨y,3,none⟩=some (.slice ak3 (E.kept.length+i2) ck3):=by rw[cell_of_row _ _ _ _ _ _ yb3];rfl
        obtain⟨gv,rfl,_,hgb2,hgl2,hcell2⟩:=aC hlay.2.2.2.2 (by omega)
        have x4:=hcell2 _ _ (dD l i2 hlt2).1
        have x5:=hcell2 _ _ (dD l i2 hlt2).2
        have hyn3:(Value.slice ak3 (E.kept.length+i2) ck3).ownBlock≠some y:=aU ykr3 yb3 (by decide)
        have hyl3:=lt_of_block yb3
        have hylz:y≠wr.heap.size:=by omega
        have hgvz:gv≠wr.heap.size:=by omega
        have HYB3:=af yb3
        have HNX:=af hnext
        obtain⟨p0,hp0⟩:∃ p0,p0=l[i2]:=⟨_,rfl⟩
        rw[←hp0] at x4 x5 HNX
        obtain⟨KL,hKL⟩:∃ KL,KL=E.kept.length+i2:=⟨_,rfl⟩
        have hkl:KL≤1100:=by omega
        rw[←hKL] at y3 ykr3 hyn3 HYB3 HNX
        obtain⟨CL,hCL⟩:∃ CL,CL=E.com.length:=⟨_,rfl⟩
        have hcl3:CL≤9223372036854775806:=by omega
        rw[←hCL] at y2 HYB3 HNX
        have HHI:=af hi2
        have hi20:(0:Int)≤(i2:Int):=by omega
        have hi21:(i2:Int)<(l.length:Int):=by omega
        have hle:l.length≤60:=hlen60
        clear hlay hcell2 yb3 hnext hp0 hKL hCL hlen60 c1 c2 c3 s1 hcl2 hclX hcl hkept hkeptX hroom hyl q hl0 hi hi2 hlt hW hWX
        go_wp2_with fail
        go_region_law (
         refine step_append_lies _ rfl (.tmp 103) (.tmp 114) 37 rfl 0 124 j0 (.agg #[.int .i64 0,.string ByteArray.empty,.int .i64 0]) 3 32 Tryz.underlying37 hj0 hjz0 hjz1 hjz2 rfl (by decide) (.slice ak3 KL ck3) KL KC (by simp[Act.eval]) (dn (ykr3.alloc _) rfl) ⟨wr.heap.size,0,none⟩ 1 1 [.int .i64 ((CL:Int)+1),.string p0.1,.int .i64 p0.2] (by simp[Act.eval]) rfl (fun j u hj=>bj hj) (fun u hu=>by simp at hu;rcases hu with h|h|h <;> subst h <;> rfl) (by decide) (by unfold maxLen;omega) (by omega) (Nat.zero_le _) _ rfl (fun g5 c5 w5 hown5 hg5 hva5 hvl5=>?_)
         have hb5:w5.heap[y]?=some (.cells #[rv3,.int .i64 E.room,.slice ac3 (CL+1) cc3,.slice ak3 KL ck3,ov3,.int .i64 E.opened] 40 (0,0)):=(hg5.block y (by simp;omega) (fun e=>hyn3 e.symm)).trans ((Below.heap_alloc _ _ _ (by simpa using hyl3)).trans HYB3.out)
         have d5:w5.cell? ⟨y,3,none⟩=some (.slice ak3 KL ck3):=by simp[World.cell?,hb5]
         have z5:w5.frozen? ⟨y,3,none⟩=false:=by simp[World.frozen?,hb5])
        all_goals
         have HFIN:=af (HNX.out g5 c5 w5 (by
          rcases hva5 with h|h
          ·exact .inl h
          ·exact .inr (by rw[h];simp)) hown5 (((((Fr.refl [] wr).drewN 1).alloc _).mono (fun k hk=>by cases hk)).trans (Fr.grown hg5)))
         clear hown5 hg5 hb5 d5 z5 hva5 x4 x5 y2 y3 HNX HYB3 ykr3
         go_wp2_with fail
         go_roundw
         case rel=>
          obtain⟨f6,h6⟩:=HFIN.out
          exact⟨i2+1,f6,by omega,by go_num,h6⟩
         case measure=>simp[intOf];omega
       ·have hend:=mO hQ hQw n hlay.1 hlay.2.1 (by simpa [E2] using hWX)
        rw[B3 E l (by omega)] at hend
        have HEND2:=af hend
        clear hlay hend
        go_wp2_with fail
        go_at_call 52
        refine HEND2.out.mono ?_
        rintro e w7 ⟨rfl,ht7⟩
        have HT7:=af ht7
        obtain⟨f7',hE7,_,_,_⟩:=ht7
        obtain⟨rv7,cv7,kv7,ov7,cs7,ps7,_,_,⟨hb7,_⟩,⟨_,_,_,⟨_,_,⟨hcr7,_⟩,_⟩,_⟩,_⟩:=hE7
        obtain⟨ac7,mc7,cc7,rfl⟩:=an hcr7
        have em7:mc7=E.com.length+1:=by have:=au hcr7;simpa [dF,bm.commit] using this
        subst em7
        have y7:w7.cell? ⟨y,2,none⟩=some (.slice ac7 (E.com.length+1) cc7):=by rw[cell_of_row _ _ _ _ _ _ hb7];rfl
        clear hb7 hcr7
        go_wp2_with fail
        go_ret2
        obtain⟨e1,e2⟩:=HRE.out
        cases e1
        refine⟨rfl,?_⟩
        rw[e2]
        obtain⟨f8,a,nn,s,r⟩:=HT7.out
        obtain⟨_,_,hs5,hfr5,_⟩:=HLAY.out
        refine⟨f8,a,nn,fun x hx=>?_,hfr5.then r hs5⟩
        rcases s x hx with h|h
        ·exact hs5 x h
        ·exact .inr (Nat.le_trans hfr5.size h)
     ·obtain⟨ES,hES⟩:∃ ES,ES=(dX E).2:=⟨_,rfl⟩
      have er:ed E l.length=ES:=by unfold ed;rw[if_pos (by rw[←HRM.out];omega),hES]
      have ecom:ES.com=E.com:=by rw[hES];rfl
      have eopn:ES.opn=E.opn:=by rw[hES];rfl
      have erm:ES.room=rm:=by rw[HRM.out,hES];rfl
      have ekl:ES.kept.length≤E.kept.length:=by rw[hES];exact List.length_filter_le _ _
      have HER:=af er
      have HECOM:=af ecom
      have hfit':rm<(E.kept.length:Int)+(l.length:Int):=by omega
      have hclX:(ES.com.length+1)*24≤140737488355328:=by rw[ecom];exact hcl
      have hkeptX:ES.kept.length≤999:=by omega
      have hWX:ES.opn.length≤8:=by rw[eopn];exact hol
      clear er ecom eopn hfit
      obtain⟨sv,hsv⟩:∃ sv,sv=(dX E).1:=⟨_,rfl⟩
      rw[←hES,←hsv] at HSWP
      clear hES hsv
      go_wp2_with fail
      go_quiet ((fail))
      go_wp2_with fail
      go_at_call 37
      refine (HSWP.out _ (HF0.out.drewN _)).mono ?_
      rintro e ws ⟨rfl,hts⟩
      obtain⟨fs,hEs,hns,hss,hfs⟩:=hts
      have HE1:Hid (bJ Q y ES ws fs):=af hEs
      have hnF:fs.Nodup:=hns
      have hszw:w'.heap.size≤wr.heap.size:=HF0.out.size
      have HS1:Hid (∀ x∈fs,x∈f∨w'.heap.size≤x):=af (fun x hx=>by
       rcases hss x hx with h|h
       ·exact .inl h
       ·exact .inr (Nat.le_trans hszw (by simpa using h)))
      have HF1:Hid (Fr f w' ws):=af (((HF0.out.drewN _).mono (fun k hk=>by cases hk)).trans hfs)
      have HVD:Hid (∀ x∈(Value.slice av l.length cv').ownBlock.toList,x∉fs):=af (fun x hx hf=>by
       rcases hss x hf with h|h
       ·have:=hvb x hx;have:=hfl x h;omega
       ·cases hb:(Value.slice av l.length cv').ownBlock with
        |none=>rw[hb] at hx;cases hx
        |some z=>
         rw[hb] at hx
         simp at hx
         subst hx
         have h1:=(HR0.out.lt _ hb).2
         have h2:wr.heap.size≤x:=by simpa using h
         omega)
      have HV1:Hid (ws.ownsRow 0 107 2 (.slice av l.length cv') l.length (aP l)):=af (bn.framed _ _ _ _ _ (bn.framed _ _ _ _ _ ⟨HR0.out,rfl⟩ ((Fr.refl [] wr).drewN _) (by simp)) hfs (fun x hx hf=>by have:=hvb x hx;have:=hfl x hf;omega)).1
      obtain⟨_,_,_,_,_,ybs,ycrs,ykrs,_,_⟩:=bJ.comGrow hQ hQw hEs hns
      obtain⟨acs,mcs,ccs,rfl⟩:=an ycrs
      obtain⟨aks,mks,cks,rfl⟩:=an ykrs
      have emks:=au ykrs
      subst emks
      rw[erm] at ybs
      have x1:ws.cell? ⟨y,1,none⟩=some (.int .i64 rm):=by rw[cell_of_row _ _ _ _ _ _ ybs];rfl
      have x3:ws.cell? ⟨y,3,none⟩=some (.slice aks ES.kept.length cks):=by rw[cell_of_row _ _ _ _ _ _ ybs];rfl
      have HTO:Hid (gk Q y ES f w' ws):=af ⟨fs,hEs,hns,HS1.out,HF1.out⟩
      clear hEs hns hss hfs ybs ycrs ykrs hvb hfl
      by_cases hfit2:(ES.kept.length:Int)+(l.length:Int)≤rm
      ·have HRE:Hid ((r1,r2)=((ES.com.length:Int)+1,(0:Int))∧EE=dF (ES.commit l) n):=af (by
        rw[HRES.out.1,HRES.out.2,HRC.out,HCL.out,hle0,HER.out]
        have en:¬((ES.kept.length:Int)+(l.length:Int)>E.room):=by rw[←HRM.out];omega
        simp only[Bool.false_eq_true,if_false,if_neg en,HECOM.out]
        exact⟨trivial,trivial⟩)
       have hfit3:¬rm<(ES.kept.length:Int)+(l.length:Int):=by omega
       obtain⟨i0,hi0,hz0,hz1,hz2⟩:=info_parts Tryz.info97
       obtain⟨rv2,cvv,kvv,ovv,cs2,yb,ycr,_,yin,ygo⟩:=bJ.comGrow hQ hQw HE1.out hnF
       obtain⟨acx,mcx,ccx,rfl⟩:=an ycr
       have emx:=au ycr
       subst emx
       have x2:ws.cell? ⟨y,2,none⟩=some (.slice acx ES.com.length ccx):=by rw[cell_of_row _ _ _ _ _ _ yb];rfl
       have hvrow:bn 107 2 (.slice av l.length cv') l.length (aP l) ws (Value.slice av l.length cv').ownBlock.toList:=⟨HV1.out,rfl⟩
       have HGO:=af (fun g3 c' w3 w4=>ygo l (.slice av l.length cv') _ g3 c' w3 w4 hvrow (fun x hx hf=>HVD.out x hx hf) (by cases (Value.slice av l.length cv').ownBlock <;> simp))
       have HVR:=af hvrow
       have HYIN:=af yin
       have hyn:(Value.slice acx ES.com.length ccx).ownBlock≠some y:=aU ycr yb (by decide)
       have HYB:=af yb
       have hylr:=lt_of_block yb
       clear ygo hvrow yin yb
       go_wp2_with fail
       go_quiet ((fail))
       go_wp2_with (at_builtin;refine wpList_append_lies _ rfl (.tmp 87) (.tmp 89) 36 rfl 0 97 i0 (.slice none 0 0) 1 24 Tryz.underlying36 hi0 hz0 hz1 hz2 rfl (by decide) (.slice acx ES.com.length ccx) ES.com.length cs2 rfl (dn (ycr.alloc _) rfl) ⟨ws.heap.size,0,none⟩ 1 1 [.slice av l.length cv'] rfl rfl (fun j u hj=>bj hj) (fun u hu=>by simp at hu;subst hu;rfl) (by decide) (by unfold maxLen;omega) hclX (Nat.zero_le _) (ws.heap.size+1) (by simp) (fun g3 c' w3 hown3 hg3 hva hvl=>?_)
                    have hb3:w3.heap[y]?=some (.cells #[rv2,.int .i64 ES.room,.slice acx ES.com.length ccx,kvv,ovv,.int .i64 ES.opened] 40 (0,0)):=(hg3.block y (by simp;omega) (fun e=>hyn e.symm)).trans ((Below.heap_alloc _ _ _ (by simpa using hylr)).trans HYB.out)
                    have d3:w3.cell? ⟨y,2,none⟩=some (.slice acx ES.com.length ccx):=by simp[World.cell?,hb3]
                    have z3:w3.frozen? ⟨y,2,none⟩=false:=by simp[World.frozen?,hb3])
       have hfr3:Fr (Value.slice acx ES.com.length ccx).ownBlock.toList ws w3:=((((Fr.refl [] ws).drewN _).alloc _).mono (fun k hk=>by cases hk)).trans (Fr.grown hg3)
       have hfr4:Fr (y::(Value.slice acx ES.com.length ccx).ownBlock.toList) ws (w3.setCell ⟨y,2,none⟩ (.slice (some ⟨g3,0,none⟩) (ES.com.length+1) c')):=(hfr3.mono (fun k hk=>.inl (by simp at hk ⊢;exact .inr hk))).set (.inl (by simp)) _
       obtain⟨f4,hE4,hn4,hs4⟩:=HGO.out g3 c' w3 _ (by rcases hva with h|h;·exact .inl h
                                                      ·exact .inr (by omega)) hown3 hfr3 rfl hfr4
       have hv4:=(bn.framed _ _ _ _ _ HVR.out hfr4 (fun x hx e=>by
        exact HVD.out x hx (HYIN.out x e))).1
       have HST:Hid (bJ Q y { ES with com:=ES.com++[l] } (w3.setCell ⟨y,2,none⟩ (.slice (some ⟨g3,0,none⟩) (ES.com.length+1) c')) f4∧f4.Nodup∧(∀ x∈f4,x∈f∨w'.heap.size≤x)∧Fr f w' (w3.setCell ⟨y,2,none⟩ (.slice (some ⟨g3,0,none⟩) (ES.com.length+1) c'))∧(w3.setCell ⟨y,2,none⟩ (.slice (some ⟨g3,0,none⟩) (ES.com.length+1) c')).ownsRow 0 107 2 (.slice av l.length cv') l.length (aP l)):=af (by
        refine⟨hE4,hn4,fun x hx=>?_,HF1.out.then hfr4 (fun k hk=>HS1.out k (HYIN.out k hk)),hv4⟩
        rcases hs4 x hx with h|h|h
        ·exact HS1.out x h
        ·exact .inr (HVN.out x h)
        ·exact .inr (Nat.le_trans HF1.out.size h))
       have HST':Hid (jY Q y ES l (.slice av l.length cv') f w' 0 (w3.setCell ⟨y,2,none⟩ (.slice (some ⟨g3,0,none⟩) (ES.com.length+1) c')) f4):=af (by unfold jY;rw[yv];exact HST.out)
       obtain⟨j0,hj0,hjz0,hjz1,hjz2⟩:=info_parts Tryz.info124
       generalize w3.setCell ⟨y,2,none⟩ (.slice (some ⟨g3,0,none⟩) (ES.com.length+1) c')=w4 at HST' ⊢
       clear hfr3 hfr4 hE4 hs4 hv4 hown3 hg3 hb3 d3 z3 hva HGO HST hn4 x1 x2 x3 HVR HYIN HYB hyn hylr ycr hvl HCL HNCi HFW HF0
       go_loopw [11] (fun t wr2=>∃ (i:Nat) (f5:List Nat),i≤l.length∧t=.int .i64 i∧jY Q y ES l (.slice av l.length cv') f w' i wr2 f5) (fun t _=>l.length - (intOf t).toNat)
       case atStart=>exact⟨0,f4,Nat.zero_le _,rfl,HST'.out⟩
       case round=>
        obtain⟨i2,f5,hi2,rfl,hlay⟩:=hrel
        have HLAY:=af hlay
        by_cases hlt2:i2<l.length
        ·obtain⟨rv3,ac3,cc3,ak3,ck3,ov3,KC,yb3,ykr3,hnext⟩:=hlay.next hQ hQw hlt2
         have y2:wr.cell? ⟨y,2,none⟩=some (.slice ac3 (ES.com.length+1) cc3):=by rw[cell_of_row _ _ _ _ _ _ yb3];rfl
         have y3:wr.cell? ⟨y,3,none⟩=some (.slice ak3 (ES.kept.length+i2) ck3):=by rw[cell_of_row _ _ _ _ _ _ yb3];rfl
         obtain⟨gv,rfl,_,hgb2,hgl2,hcell2⟩:=aC hlay.2.2.2.2 (by omega)
         have x4:=hcell2 _ _ (dD l i2 hlt2).1
         have x5:=hcell2 _ _ (dD l i2 hlt2).2
         have hyn3:(Value.slice ak3 (ES.kept.length+i2) ck3).ownBlock≠some y:=aU ykr3 yb3 (by decide)
         have hyl3:=lt_of_block yb3
         have hylz:y≠wr.heap.size:=by omega
         have hgvz:gv≠wr.heap.size:=by omega
         have HYB3:=af yb3
         have HNX:=af hnext
         obtain⟨p0,hp0⟩:∃ p0,p0=l[i2]:=⟨_,rfl⟩
         rw[←hp0] at x4 x5 HNX
         obtain⟨KL,hKL⟩:∃ KL,KL=ES.kept.length+i2:=⟨_,rfl⟩
         have hkl:KL≤1100:=by omega
         rw[←hKL] at y3 ykr3 hyn3 HYB3 HNX
         obtain⟨CL,hCL⟩:∃ CL,CL=ES.com.length:=⟨_,rfl⟩
         have hcl3:CL≤9223372036854775806:=by omega
         rw[←hCL] at y2 HYB3 HNX
         have HHI:=af hi2
         have hi20:(0:Int)≤(i2:Int):=by omega
         have hi21:(i2:Int)<(l.length:Int):=by omega
         have hle:l.length≤60:=hlen60
         clear hlay hcell2 yb3 hnext hp0 hKL hCL hlen60 c1 c2 c3 s1 hcl2 hclX hcl hkept hkeptX hroom hyl q hl0 hi hi2 hlt hW hWX
         go_wp2_with fail
         go_region_law (
          refine step_append_lies _ rfl (.tmp 103) (.tmp 114) 37 rfl 0 124 j0 (.agg #[.int .i64 0,.string ByteArray.empty,.int .i64 0]) 3 32 Tryz.underlying37 hj0 hjz0 hjz1 hjz2 rfl (by decide) (.slice ak3 KL ck3) KL KC (by simp[Act.eval]) (dn (ykr3.alloc _) rfl) ⟨wr.heap.size,0,none⟩ 1 1 [.int .i64 ((CL:Int)+1),.string p0.1,.int .i64 p0.2] (by simp[Act.eval]) rfl (fun j u hj=>bj hj) (fun u hu=>by simp at hu;rcases hu with h|h|h <;> subst h <;> rfl) (by decide) (by unfold maxLen;omega) (by omega) (Nat.zero_le _) _ rfl (fun g5 c5 w5 hown5 hg5 hva5 hvl5=>?_)
          have hb5:w5.heap[y]?=some (.cells #[rv3,.int .i64 ES.room,.slice ac3 (CL+1) cc3,.slice ak3 KL ck3,ov3,.int .i64 ES.opened] 40 (0,0)):=(hg5.block y (by simp;omega) (fun e=>hyn3 e.symm)).trans ((Below.heap_alloc _ _ _ (by simpa using hyl3)).trans HYB3.out)
          have d5:w5.cell? ⟨y,3,none⟩=some (.slice ak3 KL ck3):=by simp[World.cell?,hb5]
          have z5:w5.frozen? ⟨y,3,none⟩=false:=by simp[World.frozen?,hb5])
         all_goals
          have HFIN:=af (HNX.out g5 c5 w5 (by
           rcases hva5 with h|h
           ·exact .inl h
           ·exact .inr (by rw[h];simp)) hown5 (((((Fr.refl [] wr).drewN 1).alloc _).mono (fun k hk=>by cases hk)).trans (Fr.grown hg5)))
          clear hown5 hg5 hb5 d5 z5 hva5 x4 x5 y2 y3 HNX HYB3 ykr3
          go_wp2_with fail
          go_roundw
          case rel=>
           obtain⟨f6,h6⟩:=HFIN.out
           exact⟨i2+1,f6,by omega,by go_num,h6⟩
          case measure=>simp[intOf];omega
        ·have hend:=mO hQ hQw n hlay.1 hlay.2.1 (by simpa [E2] using hWX)
         rw[B3 ES l (by omega)] at hend
         have HEND2:=af hend
         clear hlay hend
         go_wp2_with fail
         go_at_call 52
         refine HEND2.out.mono ?_
         rintro e w7 ⟨rfl,ht7⟩
         have HT7:=af ht7
         obtain⟨f7',hE7,_,_,_⟩:=ht7
         obtain⟨rv7,cv7,kv7,ov7,cs7,ps7,_,_,⟨hb7,_⟩,⟨_,_,_,⟨_,_,⟨hcr7,_⟩,_⟩,_⟩,_⟩:=hE7
         obtain⟨ac7,mc7,cc7,rfl⟩:=an hcr7
         have em7:mc7=ES.com.length+1:=by have:=au hcr7;simpa [dF,bm.commit] using this
         subst em7
         have y7:w7.cell? ⟨y,2,none⟩=some (.slice ac7 (ES.com.length+1) cc7):=by rw[cell_of_row _ _ _ _ _ _ hb7];rfl
         clear hb7 hcr7
         go_wp2_with fail
         go_ret2
         obtain⟨e1,e2⟩:=HRE.out
         cases e1
         refine⟨rfl,?_⟩
         rw[e2]
         obtain⟨f8,a,nn,s,r⟩:=HT7.out
         obtain⟨_,_,hs5,hfr5,_⟩:=HLAY.out
         refine⟨f8,a,nn,fun x hx=>?_,hfr5.then r hs5⟩
         rcases s x hx with h|h
         ·exact hs5 x h
         ·exact .inr (Nat.le_trans hfr5.size h)
      ·have HRE:Hid ((r1,r2)=((0:Int),(11:Int))∧EE=ES):=af (by
        rw[HRES.out.1,HRES.out.2,HRC.out,HCL.out,hle0,HER.out]
        have en:(ES.kept.length:Int)+(l.length:Int)>E.room:=by rw[←HRM.out];omega
        simp only[Bool.false_eq_true,if_false,if_pos en]
        exact⟨trivial,trivial⟩)
       have hfit3:rm<(ES.kept.length:Int)+(l.length:Int):=by omega
       go_wp2_with fail
       go_quiet ((fail))
       go_wp2_with fail
       go_ret2
       obtain⟨e1,e2⟩:=HRE.out
       cases e1
       refine⟨rfl,?_⟩
       rw[e2]
       obtain⟨f8,b1,b2,b3,b4⟩:=HTO.out
       exact⟨f8,bJ.framed hQ _ _ b1 ((Fr.refl [] ws).drewN _) (by simp),b2,b3,b4.trans (((Fr.refl [] ws).drewN _).mono (fun k hk=>by cases hk))⟩
 ·have HRE:Hid ((r1,r2)=((0:Int),(6:Int))∧EE=E):=af (by rw[HRES.out.1,HRES.out.2];unfold cH;rw[iX hno];exact⟨rfl,rfl⟩)
  clear hno HF
  go_wp2
  go_ret2
  obtain⟨e1,e2⟩:=HRE.out
  cases e1
  rw[e2]
  exact⟨rfl,gk.same HE.out hn⟩
end Go.Proofs.YthlhbjnkohinmaaGreat
