import Derived.Test.YthlhbjnkohinmabGreatP43
namespace Go.Proofs.YthlhbjnkohinmabGreat
set_option maxRecDepth 100000
set_option maxHeartbeats 8000000
open Go.RowKit
theorem BH (Q:Value→eM)(hQ:∀ v,bV (Q v))(hQw:∀ v,bW (Q v))(y:Nat)(E:bm)(f:List Nat)(n:Int)(fuel k:Nat)(w:World)(hE:bG Q y E w f)(hn:f.Nodup)(hol:E.opn.length≤8)(hk:k<E.opn.length)(hk1:E.opn[k].num=n)(hk2:∀ j (h:j<E.opn.length),j<k→E.opn[j].num≠n)(hfu:fuel≤99)
  (M:br→List In) (A:In→vF) (KX:br→In→ByteArray) (Ok:Nat→br→Prop) (h0:Ok 0 E.opn[k])
  (HRE:Hid (∀ (j:Nat) (S:br) (p:Value) (ac:Option Addr) (cc:Nat) (cs:List Value) (fc fp:List Nat) (rv:Value) (f3:List Nat) (W:World),Ok j S→ip y E.com S p ac cc cs fc fp W→W.cell? ⟨y,0,none⟩=some rv→Q rv W f3→Calls Tryz.prog 58 #[.pointer (some ⟨y,0,none⟩),p] W fun e w'=>∃ v,e=.returned v∧w'.ownsRow W.heap.size 135 6 v (M S).length (aJ (M S))∧W.grownBy w' none))
  (HFI:Hid (∀ (j:Nat) (S:br) (i:In) (l:List In) (rv:Value) (f3:List Nat) (W:World),Ok j S→M S=i::l→W.cell? ⟨y,0,none⟩=some rv→Q rv W f3→Calls Tryz.prog 62 #[.pointer (some ⟨y,0,none⟩),es i] W (Fy (A i) W)))
  (HKE:Hid (∀ (j:Nat) (S:br) (i:In) (l:List In) (p:Value) (ac:Option Addr) (cc:Nat) (cs:List Value) (fc fp:List Nat) (W:World),Ok j S→M S=i::l→ip y E.com S p ac cc cs fc fp W→Calls Tryz.prog 63 #[.pointer (some ⟨y,0,none⟩),p,es i] W fun e w'=>e=.returned (.string (KX S i))∧W.grownBy w' none))
  (HOK:Hid (∀ (j:Nat) (S:br) (i:In) (l:List In) (q:List (Nat×Option Int)×Bool),j≤99→Ok j S→M S=i::l→A i=some q→Ok (j+1) (S.fire (KX S i) q.1)))
  (HSZ:Hid (∀ j S,Ok j S→S.wr.length≤1000000000000∧S.fired.length≤1000000000000))
  (HQL:Hid (∀ i q,A i=some q→q.1.length≤400)) :
  Calls Tryz.prog 29 #[.pointer (some ⟨y,0,none⟩),.int .i64 n,.int .i64 fuel] w fun e w'=>e=.returned (.tuple #[.int .i64 (dd M A KX fuel E.opn[k]).1.1,.int .i64 (dd M A KX fuel E.opn[k]).1.2,.int .i64 0])∧bP (bG Q y (pD E k (dd M A KX fuel E.opn[k]).2)) f w w':=by
 obtain⟨i0,hi0,hz0,hz1,hz2⟩:=info_parts Tryz.info107
 obtain⟨j0,hj0,hy0,hy1,hy2⟩:=info_parts Tryz.info9
 obtain⟨g1,wv,fv,rv,ao,mo,co,ps,fo,ac,cc,cs,fc,d4,hor,hses,hpk,hSO,hyg,hSEE,hFIN⟩:=hE.focus hQ hQw hn k hk
 have HF:=af (dT y E.opn ps fo n ao mo co w d4 hor hses (by omega))
 have hpl:=aA.len hses
 have HSEE:=af hSEE
 have HFIN:=af hFIN
 have HSO:=af hSO
 have H0:=af h0
 have HI0:=af hi0
 have HJ0:=af hj0
 obtain⟨S0,hS0⟩:∃ S0,S0=E.opn[k]:=⟨_,rfl⟩
 rw[←hS0] at HSO H0 ⊢
 clear hSEE hFIN hSO h0 hses hor hE hn hS0
 go_enter Tryz.func29,Tryz.ntmps29
 go_wp2_with fail
 go_at_call 39
 refine HF.out.mono ?_
 rintro e w' ⟨⟨u,rfl,hans⟩,rfl⟩
 have hu:u=.pointer (some ⟨g1,0,none⟩):=by
  rcases hans with ⟨k',h1,h2,hn1,hn2,rfl⟩|⟨hn,_⟩
  ·have e:k'=k:=by
    rcases Nat.lt_trichotomy k' k with h|h|h
    ·exact absurd hn1 (hk2 k' h1 h)
    ·exact h
    ·exact absurd hk1 (hn2 k hk h)
   subst e
   exact hpk h2
  ·exact absurd hk1 (hn k hk)
 subst hu
 clear hans HF hk1 hk2 hpk d4
 have hf0:¬(fuel:Int)<0:=by omega
 have hf9:¬(fuel:Int)>99:=by omega
 go_wp2_with fail
 go_loopw [10] (fun t wr=>∃ (j:Nat) (S:br) (wv' fv':Value),j≤fuel∧t=.int .i64 j∧q7 g1 wv' fv' S wr∧(∀ x∈gL g1 wv' fv',x∈gL g1 wv fv∨w'.heap.size≤x)∧Fr (gL g1 wv fv) w' wr∧Ok j S∧dd M A KX fuel S0=(((dd M A KX (fuel - j) S).1.1+j,(dd M A KX (fuel - j) S).1.2),(dd M A KX (fuel - j) S).2)) (fun t _=>fuel+1 - (intOf t).toNat)
 case atStart=>exact⟨0,S0,wv,fv,Nat.zero_le _,rfl,HSO.out,fun x hx=>.inl hx,Fr.refl _ _,H0.out,by rw[Nat.sub_zero];simp⟩
 case round=>
  obtain⟨j,S,wv',fv',hj,rfl,hso,hsub,hfr,hok,hrun⟩:=hrel
  have HS:=af hso
  have HSUB:=af hsub
  have HFR:=af hfr
  have HO:=af hok
  have HRUN:=af hrun
  obtain⟨e1,e2,f3,e3⟩:=HSEE.out wv' fv' S wr hso hfr
  have HC:=af (HRE.out j S _ ac cc cs fc _ rv f3 wr hok e1 e2 e3)
  clear hso hsub hfr hok hrun e1 e2 e3 HSO H0
  have hjl:(j:Int)≤(fuel:Int):=by omega
  go_wp2_with fail
  go_at_call 58
  refine HC.out.mono ?_
  rintro e w1 ⟨v,rfl,hown,hg1⟩
  obtain⟨a,m,c,rfl⟩:=an hown
  have em:=ar hown
  subst em
  have HG1:=af (aI hg1)
  have hs1:=HS.out.quiet (aI hg1)
  have hfr1:Fr (gL g1 wv fv) w' w1:=HFR.out.trans ((aI hg1).mono (fun x hx=>by cases hx))
  have HS1:=af hs1
  have HFR1:=af hfr1
  obtain⟨e1,e2,f3',e3⟩:=HSEE.out wv' fv' S w1 hs1 hfr1
  clear HC hg1
  cases hM:M S with
  |nil=>
   have HR:=af (zS (A:=A) (KX:=KX) hM (fuel - j))
   rw[HR.out] at HRUN
   clear hown hs1 hfr1 e1 e2 e3 hM
   go_wp2_with fail
   go_ret3
   rw[HRUN.out]
   exact⟨by simp,HFIN.out wv' fv' S _ HS1.out HSUB.out HFR1.out⟩
  |cons i l=>
   have HM:=af hM
   rw[hM] at hown
   obtain⟨gl,rfl,_,hgb,hgl,hcell⟩:=aC hown (by simp)
   obtain⟨x0,x1,x2,x3,x4,x5⟩:=gu (i::l) 0 (by simp)
   have q0:=hcell _ _ x0
   have q1:=hcell _ _ x1
   have q2:=hcell _ _ x2
   have q3:=hcell _ _ x3
   have q4:=hcell _ _ x4
   have q5:=hcell _ _ x5
   have HC2:=af (HFI.out j S i l rv f3' w1 HO.out hM e2 e3)
   unfold es at HC2
   simp only[Nat.zero_mul,Nat.zero_add,List.getElem_cons_zero] at q0 q1 q2 q3 q4 q5
   have hll:((i::l).length:Int)≠0:=by simp;omega
   have hlb:(((i::l).length:Int)==0)=false:=by simpa using hll
   obtain⟨ln,hln⟩:∃ ln,ln=(i::l).length:=⟨_,rfl⟩
   have hlp:0<ln:=by rw[hln];simp
   rw[←hln] at hll hlb ⊢
   clear hown hs1 hfr1 e1 e2 e3 hcell x0 x1 x2 x3 x4 x5 hM hln hgb
   by_cases hjf:j=fuel
   ·subst hjf
    have HR:=af (wK (A:=A) (KX:=KX) HM.out)
    rw[Nat.sub_self,HR.out] at HRUN
    go_wp2_with fail
    go_ret3
    rw[HRUN.out]
    exact⟨by simp,HFIN.out wv' fv' S _ HS1.out HSUB.out HFR1.out⟩
   ·have hjb:((j:Int)==(fuel:Int))=false:=by simp;omega
    obtain⟨r,hr⟩:∃ r,fuel - j=r+1:=⟨fuel - j - 1,by omega⟩
    rw[hr] at HRUN
    go_wp2_with fail
    go_at_call 62
    refine HC2.out.mono ?_
    intro e w2 hfa
    obtain⟨hg2,hres⟩:=hfa
    have HS2:=af (HS1.out.quiet (aI hg2))
    have HFR2:Hid (Fr (gL g1 wv fv) w' w2):=af (HFR1.out.trans ((aI hg2).mono (fun x hx=>by cases hx)))
    cases hA:A i with
    |none=>
     rw[hA] at hres
     simp only at hres
     subst hres
     have HR:=af (AS (KX:=KX) HM.out hA r)
     rw[HR.out] at HRUN
     clear hg2 hA HC2
     go_wp2_with fail
     go_ret3
     rw[HRUN.out]
     exact⟨by simp,HFIN.out wv' fv' S _ HS2.out HSUB.out HFR2.out⟩
    |some q=>
     rw[hA] at hres
     simp only at hres
     obtain⟨v2,rfl,hown2⟩:=hres
     obtain⟨a5,m5,c5,rfl⟩:=an hown2
     have em5:=ar hown2
     subst em5
     cases a5 with
     |none=>
      have q0':=am hg2 q0
      have q1':=am hg2 q1
      have q2':=am hg2 q2
      have q3':=am hg2 q3
      have q4':=am hg2 q4
      have q5':=am hg2 q5
      have HC3:=af (HKE.out j S i l _ ac cc cs fc _ w2 HO.out HM.out (HSEE.out wv' fv' S w2 HS2.out HFR2.out).1)
      unfold es at HC3
      have hgl2:gl<w2.heap.size:=Nat.lt_of_lt_of_le hgl hg2.size
      obtain⟨ky,hky⟩:∃ ky,ky=KX S i:=⟨_,rfl⟩
      rw[←hky] at HC3
      have HKY:=af hky
      have HOWN2:=af hown2
      clear q0 q1 q2 q3 q4 q5 hg2 hown2 hky HC2
      go_wp2_with fail
      go_at_call 63
      refine HC3.out.mono ?_
      rintro e w3 ⟨rfl,hg3⟩
      have HS3:=af (HS2.out.quiet (aI hg3))
      have HFR3:Hid (Fr (gL g1 wv fv) w' w3):=af (HFR2.out.trans ((aI hg3).mono (fun x hx=>by cases hx)))
      have HOWN3:=af (aq HOWN2.out hg3 (fun g hg=>by cases hg))
      obtain⟨a1,m1,c1,ewv⟩:=an HS3.out.wr
      obtain⟨a2,m2,c2,efv⟩:=an HS3.out.fd
      have hb3:=HS3.out.blk
      have hg13:=lt_of_block hb3
      have hgz3:g1≠w3.heap.size:=by omega
      obtain⟨sz1,sz2⟩:=HSZ.out j S HO.out
      have szq:=HQL.out i q hA
      have k2:w3.cell? ⟨g1,2,none⟩=some wv':=by simp[World.cell?,hb3]
      have k3:w3.cell? ⟨g1,3,none⟩=some fv':=by simp[World.cell?,hb3]
      have z3:=ai hb3
      subst ewv efv
      have em1:=ar HS3.out.wr
      have em2:=ar HS3.out.fd
      subst em1 em2
      have HFD:=HS3.out.fd
      clear HC3 hg3 hb3 q0' q1' q2' q3' q4' q5'
      go_wp2_with (first|(at_builtin;refine wpList_append_own_at _ rfl (.tmp 65) (.tmp 67) 47 rfl 0 9 j0 (.string ByteArray.empty) 1 16 Tryz.underlying47 HJ0.out hy0 hy1 hy2 rfl (by decide) _ _ _ rfl (HFD.alloc _) _ 1 1 [.string ky] rfl rfl (cell_one_new _ _ _) ?c2 ?c3 ?c4 (Nat.zero_le _) ?_))
      case c2=>
       intro u hu
       rw[List.mem_singleton] at hu
       subst hu
       rfl
      case c3=>unfold maxLen;omega
      case c4=>omega
      intro v4 w4 hown4 hg4 _ hat4
      obtain⟨a4,m4,c4,rfl⟩:=an hown4
      have em4:=ar hown4
      subst em4
      have hfr4:Fr (Value.slice a2 S.fired.length c2).ownBlock.toList w3 w4:=((Fr.refl _ w3).alloc _).trans (Fr.grown hg4)
      obtain⟨hso5,hfr5,hsub5⟩:=rW HS3.out hown4 hfr4 (by
       rcases hat4 with h|h
       ·exact .inl h
       ·exact .inr ⟨_,h,by simp⟩)
      have hb4:w4.heap[g1]?=some (.cells #[.int .i64 S.num,.int .i64 S.snap,.slice a1 S.wr.length c1,.slice a2 S.fired.length c2] 49 (0,0)):=(hfr4.block g1 hg13 (fun e=>by
       have:=aS HS3.out.fd HS3.out.blk (by decide)
       cases hq:(Value.slice a2 S.fired.length c2).ownBlock with
       |none=>rw[hq] at e;cases e
       |some b=>
        rw[hq] at e this
        simp at e
        exact this (by rw[e]))).trans HS3.out.blk
      have k2':w4.cell? ⟨g1,2,none⟩=some (.slice a1 S.wr.length c1):=by simp[World.cell?,hb4]
      have k3':w4.cell? ⟨g1,3,none⟩=some (.slice a2 S.fired.length c2):=by simp[World.cell?,hb4]
      have z4:=ai hb4
      have HS5:=af hso5
      have HFR5:=af hfr5
      have HSUB5:=af hsub5
      have HG4:=af hg4
      have HW5:=hso5.wr
      have hg14:=lt_of_block hb4
      clear hso5 hfr5 hsub5 hown4 hg4 hat4 hfr4 k2 k3 z3 HFD
      have hz:q.1.length=0∧c5=0:=by
       obtain⟨_,h2⟩:=HOWN3.out
       rcases h2 with ⟨e,h3⟩|⟨_,_,_,e,_⟩
       ·simp only[Value.slice.injEq] at e
        exact⟨e.2.1,e.2.2⟩
       ·simp at e
      obtain⟨hz1',hz2'⟩:=hz
      have hqn:q.1=[]:=List.length_eq_zero_iff.mp hz1'
      subst hz2'
      rw[hz1']
      have HSE:Hid (q7 g1 (.slice a1 S.wr.length c1) (.slice a4 (S.fired.length+1) c4) (S.fire ky q.1) ((w4.setCell ⟨g1,3,none⟩ (.slice a4 (S.fired.length+1) c4)).setCell ⟨g1,2,none⟩ (.slice a1 S.wr.length c1))):=af (by
       have:=(lk (ws:=[]) (v':=.slice a1 S.wr.length c1) HS5.out (by simpa [aP] using HS5.out.wr) (Fr.refl _ _) (.inl rfl)).1
       unfold br.fire
       rw[hqn]
       simpa using this)
      have HFR6:Hid (Fr (gL g1 (.slice a1 S.wr.length c1) (.slice a2 S.fired.length c2)) w3 ((w4.setCell ⟨g1,3,none⟩ (.slice a4 (S.fired.length+1) c4)).setCell ⟨g1,2,none⟩ (.slice a1 S.wr.length c1))):=af (HFR5.out.set (.inl (by simp[gL])) _)
      have HFRE:Hid (Fr (gL g1 wv fv) w' ((w4.setCell ⟨g1,3,none⟩ (.slice a4 (S.fired.length+1) c4)).setCell ⟨g1,2,none⟩ (.slice a1 S.wr.length c1))):=af (HFR3.out.trans2 HFR6.out HSUB.out)
      have HSUBE:Hid (∀ x∈gL g1 (.slice a1 S.wr.length c1) (.slice a4 (S.fired.length+1) c4),x∈gL g1 wv fv∨w'.heap.size≤x):=af (fun x hx=>by
       rcases HSUB5.out x hx with h|h
       ·exact HSUB.out x h
       ·exact .inr (Nat.le_trans HFR3.out.size h))
      cases hq2:q.2 with
      |true=>
       have HR:=af (pW (KX:=KX) HM.out hA hq2 r)
       rw[HR.out,←HKY.out] at HRUN
       clear hA
       go_wp2_with (first|(at_builtin;refine wpList_append_own_none rfl (.tmp 75) (.tmp 76) 46 rfl 0 107 i0 2 Tryz.underlying46 HI0.out _ _ _ rfl HW5 rfl ?_))
       go_ret3
       rw[HRUN.out]
       exact⟨by simp;omega,HFIN.out _ _ _ _ HSE.out HSUBE.out HFRE.out⟩
      |false=>
       have HR:=af (ww (KX:=KX) HM.out hA hq2 r)
       rw[HR.out,←HKY.out] at HRUN
       have HOKE:=af (HOK.out j S i l q (by omega) HO.out HM.out hA)
       rw[←HKY.out] at HOKE
       have hrr:fuel - (j+1)=r:=by omega
       clear hA
       go_wp2_with (first|(at_builtin;refine wpList_append_own_none rfl (.tmp 75) (.tmp 76) 46 rfl 0 107 i0 2 Tryz.underlying46 HI0.out _ _ _ rfl HW5 rfl ?_))
       go_roundw
       case rel=>exact⟨j+1,S.fire ky q.1,_,_,by omega,by go_num,HSE.out,HSUBE.out,HFRE.out,HOKE.out,by rw[hrr,HRUN.out];simp;omega⟩
       case measure=>simp[intOf];omega
     |some la=>
      have q0':=am hg2 q0
      have q1':=am hg2 q1
      have q2':=am hg2 q2
      have q3':=am hg2 q3
      have q4':=am hg2 q4
      have q5':=am hg2 q5
      have HC3:=af (HKE.out j S i l _ ac cc cs fc _ w2 HO.out HM.out (HSEE.out wv' fv' S w2 HS2.out HFR2.out).1)
      unfold es at HC3
      have hgl2:gl<w2.heap.size:=Nat.lt_of_lt_of_le hgl hg2.size
      obtain⟨ky,hky⟩:∃ ky,ky=KX S i:=⟨_,rfl⟩
      rw[←hky] at HC3
      have HKY:=af hky
      have HOWN2:=af hown2
      clear q0 q1 q2 q3 q4 q5 hg2 hown2 hky HC2
      go_wp2_with fail
      go_at_call 63
      refine HC3.out.mono ?_
      rintro e w3 ⟨rfl,hg3⟩
      have HS3:=af (HS2.out.quiet (aI hg3))
      have HFR3:Hid (Fr (gL g1 wv fv) w' w3):=af (HFR2.out.trans ((aI hg3).mono (fun x hx=>by cases hx)))
      have HOWN3:=af (aq HOWN2.out hg3 (fun g hg=>by cases hg))
      obtain⟨a1,m1,c1,ewv⟩:=an HS3.out.wr
      obtain⟨a2,m2,c2,efv⟩:=an HS3.out.fd
      have hb3:=HS3.out.blk
      have hg13:=lt_of_block hb3
      have hgz3:g1≠w3.heap.size:=by omega
      obtain⟨sz1,sz2⟩:=HSZ.out j S HO.out
      have szq:=HQL.out i q hA
      have k2:w3.cell? ⟨g1,2,none⟩=some wv':=by simp[World.cell?,hb3]
      have k3:w3.cell? ⟨g1,3,none⟩=some fv':=by simp[World.cell?,hb3]
      have z3:=ai hb3
      subst ewv efv
      have em1:=ar HS3.out.wr
      have em2:=ar HS3.out.fd
      subst em1 em2
      have HFD:=HS3.out.fd
      clear HC3 hg3 hb3 q0' q1' q2' q3' q4' q5'
      go_wp2_with (first|(at_builtin;refine wpList_append_own_at _ rfl (.tmp 65) (.tmp 67) 47 rfl 0 9 j0 (.string ByteArray.empty) 1 16 Tryz.underlying47 HJ0.out hy0 hy1 hy2 rfl (by decide) _ _ _ rfl (HFD.alloc _) _ 1 1 [.string ky] rfl rfl (cell_one_new _ _ _) ?c2 ?c3 ?c4 (Nat.zero_le _) ?_))
      case c2=>
       intro u hu
       rw[List.mem_singleton] at hu
       subst hu
       rfl
      case c3=>unfold maxLen;omega
      case c4=>omega
      intro v4 w4 hown4 hg4 _ hat4
      obtain⟨a4,m4,c4,rfl⟩:=an hown4
      have em4:=ar hown4
      subst em4
      have hfr4:Fr (Value.slice a2 S.fired.length c2).ownBlock.toList w3 w4:=((Fr.refl _ w3).alloc _).trans (Fr.grown hg4)
      obtain⟨hso5,hfr5,hsub5⟩:=rW HS3.out hown4 hfr4 (by
       rcases hat4 with h|h
       ·exact .inl h
       ·exact .inr ⟨_,h,by simp⟩)
      have hb4:w4.heap[g1]?=some (.cells #[.int .i64 S.num,.int .i64 S.snap,.slice a1 S.wr.length c1,.slice a2 S.fired.length c2] 49 (0,0)):=(hfr4.block g1 hg13 (fun e=>by
       have:=aS HS3.out.fd HS3.out.blk (by decide)
       cases hq:(Value.slice a2 S.fired.length c2).ownBlock with
       |none=>rw[hq] at e;cases e
       |some b=>
        rw[hq] at e this
        simp at e
        exact this (by rw[e]))).trans HS3.out.blk
      have k2':w4.cell? ⟨g1,2,none⟩=some (.slice a1 S.wr.length c1):=by simp[World.cell?,hb4]
      have k3':w4.cell? ⟨g1,3,none⟩=some (.slice a2 S.fired.length c2):=by simp[World.cell?,hb4]
      have z4:=ai hb4
      have HS5:=af hso5
      have HFR5:=af hfr5
      have HSUB5:=af hsub5
      have HG4:=af hg4
      have HW5:=hso5.wr
      have hg14:=lt_of_block hb4
      clear hso5 hfr5 hsub5 hown4 hg4 hat4 hfr4 k2 k3 z3 HFD
      obtain⟨gs,hgs⟩:∃ gs,la=⟨gs,0,none⟩:=by
       obtain⟨_,h2⟩:=HOWN3.out
       rcases h2 with ⟨e,_⟩|⟨g',_,_,e,_⟩
       ·simp at e
       ·simp only[Value.slice.injEq,Option.some.injEq] at e
        exact⟨g',e.1⟩
      subst hgs
      have HOWN4:=aq (HOWN3.out.alloc (.cells #[.string ky] 9)) HG4.out (fun g hg=>by
       obtain⟨cs',hc'⟩:=fE HS3.out.fd g hg
       exact⟨cs',_,(Below.heap_alloc _ _ _ (lt_of_block hc')).trans hc',by decide⟩)
      have HOWN5:=af (ownsRow_setCell_other HOWN4 (aS HOWN4 hb4 (by decide)) (a:=⟨g1,3,none⟩) (.slice a4 (S.fired.length+1) c4))
      have hql:(aP (q.1.map iw)).length=q.1.length*2:=by rw[uR,List.length_map]
      cases hq2:q.2 with
      |true=>
       have HR:=af (pW (KX:=KX) HM.out hA hq2 r)
       rw[HR.out,←HKY.out] at HRUN
       clear hA
       go_wp2_with (first|(at_builtin;refine wpList_append_own_at _ rfl (.tmp 75) (.tmp 76) 46 rfl 0 107 i0 (.agg #[.string ByteArray.empty,.int .i64 0]) 2 24 Tryz.underlying46 HI0.out hz0 hz1 hz2 rfl (by decide) _ _ _ rfl HW5 _ q.1.length c5 (aP (q.1.map iw)) rfl hql (qs HOWN5.out) (oJ _) ?c3 ?c4 (Nat.zero_le _) ?_))
       case c3=>unfold maxLen;omega
       case c4=>omega
       intro v6 w6 hown6 hg6 _ hat6
       obtain⟨a6,m6,c6,rfl⟩:=an hown6
       have em6:=ar hown6
       subst em6
       have hfr6:Fr (Value.slice a1 S.wr.length c1).ownBlock.toList (w4.setCell ⟨g1,3,none⟩ (.slice a4 (S.fired.length+1) c4)) w6:=Fr.grown hg6
       obtain⟨hsoE,hfrE,hsubE⟩:=lk (ws:=q.1.map iw) HS5.out (by rw[List.length_map];exact hown6) hfr6 (by
        rcases hat6 with h|h
        ·exact .inl h
        ·exact .inr ⟨_,h,by simp⟩)
       have hb6:w6.heap[g1]?=some (.cells #[.int .i64 S.num,.int .i64 S.snap,.slice a1 S.wr.length c1,(.slice a4 (S.fired.length+1) c4)] 49 (0,0)):=(hfr6.block g1 (by simp;exact hg14) (fun e=>by
        have:=aS HS5.out.wr HS5.out.blk (by decide)
        cases hq:(Value.slice a1 S.wr.length c1).ownBlock with
        |none=>rw[hq] at e;cases e
        |some b=>
         rw[hq] at e this
         simp at e
         exact this (by rw[e]))).trans HS5.out.blk
       have k6:w6.cell? ⟨g1,2,none⟩=some (.slice a1 S.wr.length c1):=by simp[World.cell?,hb6]
       have z6:=ai hb6
       have HSE:Hid (q7 g1 (.slice a6 (S.wr.length+q.1.length) c6) (.slice a4 (S.fired.length+1) c4) (S.fire ky q.1) (w6.setCell ⟨g1,2,none⟩ (.slice a6 (S.wr.length+q.1.length) c6))):=af hsoE
       have HFR6:=af (HFR5.out.trans2 hfrE HSUB5.out)
       have HFRE:Hid (Fr (gL g1 wv fv) w' (w6.setCell ⟨g1,2,none⟩ (.slice a6 (S.wr.length+q.1.length) c6))):=af (HFR3.out.trans2 HFR6.out HSUB.out)
       have HSUBE:Hid (∀ x∈gL g1 (.slice a6 (S.wr.length+q.1.length) c6) (.slice a4 (S.fired.length+1) c4),x∈gL g1 wv fv∨w'.heap.size≤x):=af (fun x hx=>by
        have hsz5:=HFR5.out.size
        have hsz3:=HFR3.out.size
        rcases hsubE x hx with h|h
        ·rcases HSUB5.out x h with h|h
         ·exact HSUB.out x h
         ·exact .inr (Nat.le_trans hsz3 h)
        ·exact .inr (by omega))
       clear hsoE hfrE hsubE hown6 hg6 hat6 hfr6 hb6 k2' k3' z4
       go_wp2_with fail
       go_ret3
       rw[HRUN.out]
       exact⟨by simp;omega,HFIN.out _ _ _ _ HSE.out HSUBE.out HFRE.out⟩
      |false=>
       have HR:=af (ww (KX:=KX) HM.out hA hq2 r)
       rw[HR.out,←HKY.out] at HRUN
       have HOKE:=af (HOK.out j S i l q (by omega) HO.out HM.out hA)
       rw[←HKY.out] at HOKE
       have hrr:fuel - (j+1)=r:=by omega
       clear hA
       go_wp2_with (first|(at_builtin;refine wpList_append_own_at _ rfl (.tmp 75) (.tmp 76) 46 rfl 0 107 i0 (.agg #[.string ByteArray.empty,.int .i64 0]) 2 24 Tryz.underlying46 HI0.out hz0 hz1 hz2 rfl (by decide) _ _ _ rfl HW5 _ q.1.length c5 (aP (q.1.map iw)) rfl hql (qs HOWN5.out) (oJ _) ?c3 ?c4 (Nat.zero_le _) ?_))
       case c3=>unfold maxLen;omega
       case c4=>omega
       intro v6 w6 hown6 hg6 _ hat6
       obtain⟨a6,m6,c6,rfl⟩:=an hown6
       have em6:=ar hown6
       subst em6
       have hfr6:Fr (Value.slice a1 S.wr.length c1).ownBlock.toList (w4.setCell ⟨g1,3,none⟩ (.slice a4 (S.fired.length+1) c4)) w6:=Fr.grown hg6
       obtain⟨hsoE,hfrE,hsubE⟩:=lk (ws:=q.1.map iw) HS5.out (by rw[List.length_map];exact hown6) hfr6 (by
        rcases hat6 with h|h
        ·exact .inl h
        ·exact .inr ⟨_,h,by simp⟩)
       have hb6:w6.heap[g1]?=some (.cells #[.int .i64 S.num,.int .i64 S.snap,.slice a1 S.wr.length c1,(.slice a4 (S.fired.length+1) c4)] 49 (0,0)):=(hfr6.block g1 (by simp;exact hg14) (fun e=>by
        have:=aS HS5.out.wr HS5.out.blk (by decide)
        cases hq:(Value.slice a1 S.wr.length c1).ownBlock with
        |none=>rw[hq] at e;cases e
        |some b=>
         rw[hq] at e this
         simp at e
         exact this (by rw[e]))).trans HS5.out.blk
       have k6:w6.cell? ⟨g1,2,none⟩=some (.slice a1 S.wr.length c1):=by simp[World.cell?,hb6]
       have z6:=ai hb6
       have HSE:Hid (q7 g1 (.slice a6 (S.wr.length+q.1.length) c6) (.slice a4 (S.fired.length+1) c4) (S.fire ky q.1) (w6.setCell ⟨g1,2,none⟩ (.slice a6 (S.wr.length+q.1.length) c6))):=af hsoE
       have HFR6:=af (HFR5.out.trans2 hfrE HSUB5.out)
       have HFRE:Hid (Fr (gL g1 wv fv) w' (w6.setCell ⟨g1,2,none⟩ (.slice a6 (S.wr.length+q.1.length) c6))):=af (HFR3.out.trans2 HFR6.out HSUB.out)
       have HSUBE:Hid (∀ x∈gL g1 (.slice a6 (S.wr.length+q.1.length) c6) (.slice a4 (S.fired.length+1) c4),x∈gL g1 wv fv∨w'.heap.size≤x):=af (fun x hx=>by
        have hsz5:=HFR5.out.size
        have hsz3:=HFR3.out.size
        rcases hsubE x hx with h|h
        ·rcases HSUB5.out x h with h|h
         ·exact HSUB.out x h
         ·exact .inr (Nat.le_trans hsz3 h)
        ·exact .inr (by omega))
       clear hsoE hfrE hsubE hown6 hg6 hat6 hfr6 hb6 k2' k3' z4
       go_wp2_with fail
       go_roundw
       case rel=>exact⟨j+1,S.fire ky q.1,_,_,by omega,by go_num,HSE.out,HSUBE.out,HFRE.out,HOKE.out,by rw[hrr,HRUN.out];simp;omega⟩
       case measure=>simp[intOf];omega
end Go.Proofs.YthlhbjnkohinmabGreat
