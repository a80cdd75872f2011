import Derived.Test.YthlhbjnkohinmaaGreatP30
import Derived.Deep.AppendLies
import Derived.Test.YthlhbjnkohinmaaGreatP08
import Derived.Laws.AppendOwnNone
namespace Go.Proofs.YthlhbjnkohinmaaGreat
set_option maxRecDepth 100000
set_option maxHeartbeats 8000000
open Go.RowKit
theorem vT (l:List aw)(q:aw):bA (l++[q])=bA l++cq q.1 q.2.1:=by
 unfold bA
 rw[List.map_append]
 exact gZ _ _
theorem fA (l:List aw):(bA l).size=3*l.length:=jm l
def i9 (F:List aw)(c t1 t2:Int)(l:List In)(i k:Nat):List In:=(l.take i).flatMap (iF F c t1 t2)++(match l[i]? with|some x=>iF (F.take k) c t1 t2 x|none=>[])
theorem zF {F:List aw}{c t1 t2:Int}{l:List In}{i k:Nat}(hi:i<l.length)(hk:k<F.length):i9 F c t1 t2 l i (k+1)=i9 F c t1 t2 l i k++((gb l[i].env c t1 t2 F[k]).map fun e=>⟨l[i].rule,l[i].facts++[F[k]],e⟩).toList:=by
 unfold i9
 rw[List.getElem?_eq_getElem hi]
 simp only[iF]
 rw[List.take_succ_eq_append_getElem hk,List.filterMap_append,List.append_assoc]
 cases h:gb l[i].env c t1 t2 F[k] <;> simp[h]
theorem Bl {F:List aw}{c t1 t2:Int}{l:List In}{i:Nat}(hi:i<l.length):i9 F c t1 t2 l i F.length=i9 F c t1 t2 l (i+1) 0:=by
 unfold i9
 rw[List.getElem?_eq_getElem hi,List.take_succ_eq_append_getElem hi,List.flatMap_append]
 cases l[i+1]? <;> simp[iF]
theorem BP {F:List aw}{c t1 t2:Int}{l:List In}:i9 F c t1 t2 l l.length 0=l.flatMap (iF F c t1 t2):=by
 unfold i9
 simp
theorem CX (F:List aw)(hF:F.length≤60)(c t1 t2:Int)(l:List In)(i k:Nat):(i9 F c t1 t2 l i k).length≤l.length*60+60:=by
 unfold i9
 rw[List.length_append]
 have h1:=ib (f:=iF F c t1 t2) (m:=60) (fun x=>Nat.le_trans (ll F c t1 t2 x) hF) (l.take i)
 have h2:(match l[i]? with|some x=>iF (F.take k) c t1 t2 x|none=>[]).length≤60:=by
  cases l[i]? with
  |none=>simp
  |some x=>exact Nat.le_trans (ll _ c t1 t2 x) (by simp;omega)
 have h3:(l.take i).length*60≤l.length*60:=Nat.mul_le_mul_right 60 (by simp;omega)
 omega
theorem Fq (F:List aw)(c t1 t2:Int)(l:List In)(u:ByteArray)(la fa:Option Addr)(lc fc B B2:Nat)(w:World)(hu:ug u c t1 t2)(hu4:u.size≤400)(hc:aR c=true)(h1:c7 t1=true)(h2:c7 t2=true)(hll:l.length≤1000000000)(hF:rk F)(hFl:F.length≤60)
  (hl:∀ i∈l,pK F i∧i.facts.length≤100)
  (hrow:w.ownsRow B 136 6 (.slice la l.length lc) l.length (aI l)) (hfrow:w.ownsRow B2 9 1 (.slice fa F.length fc) F.length (gC F)) :
  Calls Tryz.prog 115 #[.slice la l.length lc,.string u,.slice fa F.length fc] w fun e w'=>∃ v,e=.returned v∧w'.ownsRow w.heap.size 136 6 v (l.flatMap (iF F c t1 t2)).length (aI (l.flatMap (iF F c t1 t2)))∧w.grownBy w' none:=by
 obtain⟨i0,hi0,hz0,hz1,hz2⟩:=info_parts Tryz.info136
 have hus:=hu.size
 have HPA:=af (fun W=>id u W (by omega))
 rw[hu.c0,hc] at HPA
 have HROW:=af hrow
 have HFROW:=af hfrow
 have HFT:Hid (∀ i (hi:i<l.length) k (hk:k<F.length) (W:World),Calls Tryz.prog 137 #[fG l[i].env,.string u,.string (cq F[k].1 F[k].2.1)] W fun r w'=>(∃ e',r=.returned (.tuple #[fG e',.bool (gb l[i].env c t1 t2 F[k]).isSome])∧∀ e2,gb l[i].env c t1 t2 F[k]=some e2→e'=e2)∧W.grownBy w' none):=af (fun i hi k hk W=>rE _ c t1 t2 F[k] u W hu hu4 (hF _ (List.getElem_mem hk)) h1 h2 (hl _ (List.getElem_mem hi)).1.env)
 have HLEN:Hid (∀ i (hi:i<l.length),(bA l[i].facts).size≤300):=af (fun i hi=>by rw[fA];have:=(hl _ (List.getElem_mem hi)).2;omega)
 have HOUT:=af (CX F hFl c t1 t2 l)
 clear hrow hfrow hc hu h1 h2 hl hF
 go_enter Tryz.func115,Tryz.ntmps115
 go_wp2_with fail
 go_at_call 107
 refine (HPA.out _).mono ?_
 rintro e w0 ⟨rfl,rfl⟩
 go_wp2_with fail
 go_loopw [7,9] (fun v t wr=>∃ i:Nat,i≤l.length∧t=.int .i64 i∧wr.ownsRow w.heap.size 136 6 v (i9 F c t1 t2 l i 0).length (aI (i9 F c t1 t2 l i 0))∧w.grownBy wr none) (fun _ t _=>l.length - (intOf t).toNat)
 case atStart=>exact⟨0,by omega,rfl,by
  have e:i9 F c t1 t2 l 0 0=[]:=by unfold i9;cases l[0]? <;> simp[iF]
  rw[e];exact World.ownsRow_nil _ _ _ _,ag _ _⟩
 case round=>
  obtain⟨i,hi,rfl,hown,hg⟩:=hrel
  have HG:=af hg
  have HOW:=af hown
  by_cases hlt:i<l.length
  ·clear hown hg
   have hii:(i:Int)<l.length:=by omega
   have HIN:Hid (∀ k (hk:k<F.length) (W:World),_):=af (HFT.out i hlt)
   have HSTEP:Hid (∀ k (hk:k<F.length),_):=af (fun k (hk:k<F.length)=>zF (F:=F) (c:=c) (t1:=t1) (t2:=t2) (l:=l) hlt hk)
   have HNEXT:=af (Bl (F:=F) (c:=c) (t1:=t1) (t2:=t2) hlt)
   have hfl:=HLEN.out i hlt
   have HLC:Hid (∀ W,w.grownBy W none→∃ gl,la=some ⟨gl,0,none⟩∧gl<w.heap.size∧W.cell? ⟨gl,i*6,none⟩=some (.int .i64 l[i].rule)∧W.cell? ⟨gl,i*6+1,none⟩=some (.int .i64 (eI l[i].env 0))∧W.cell? ⟨gl,i*6+2,none⟩=some (.int .i64 (eI l[i].env 1))∧W.cell? ⟨gl,i*6+3,none⟩=some (.int .i64 (eI l[i].env 2))∧W.cell? ⟨gl,i*6+4,none⟩=some (.int .i64 (eI l[i].env 3))∧W.cell? ⟨gl,i*6+5,none⟩=some (.string (bA l[i].facts))):=af (fun W hW=>by
    obtain⟨gl,e,_,_,hgl,hcell⟩:=aC HROW.out (by omega)
    obtain⟨x0,x1,x2,x3,x4,x5⟩:=gn l i hlt
    exact⟨gl,e,hgl,am hW (hcell _ _ x0),am hW (hcell _ _ x1),am hW (hcell _ _ x2),am hW (hcell _ _ x3),am hW (hcell _ _ x4),am hW (hcell _ _ x5)⟩)
   obtain⟨it,hit⟩:∃ it,it=l[i]:=⟨_,rfl⟩
   rw[←hit] at HLC hfl HSTEP HIN
   obtain⟨gl,hla,hgl0,_⟩:=HLC.out w (ag _ _)
   subst hla
   have HLC2:Hid (∀ W,w.grownBy W none→W.cell? ⟨gl,i*6,none⟩=some (.int .i64 it.rule)∧W.cell? ⟨gl,i*6+1,none⟩=some (.int .i64 (eI it.env 0))∧W.cell? ⟨gl,i*6+2,none⟩=some (.int .i64 (eI it.env 1))∧W.cell? ⟨gl,i*6+3,none⟩=some (.int .i64 (eI it.env 2))∧W.cell? ⟨gl,i*6+4,none⟩=some (.int .i64 (eI it.env 3))∧W.cell? ⟨gl,i*6+5,none⟩=some (.string (bA it.facts))):=af (fun W hW=>by
    obtain⟨g',e,_,h⟩:=HLC.out W hW
    simp only[Option.some.injEq,Addr.mk.injEq,and_true] at e
    rw[e]
    exact h)
   clear HLC hit
   unfold fG at HIN
   obtain⟨ru,hru⟩:∃ ru:Int,ru=it.rule:=⟨_,rfl⟩
   obtain⟨a0,ha0⟩:∃ a0,a0=eI it.env 0:=⟨_,rfl⟩
   obtain⟨a1,ha1⟩:∃ a1,a1=eI it.env 1:=⟨_,rfl⟩
   obtain⟨a2,ha2⟩:∃ a2,a2=eI it.env 2:=⟨_,rfl⟩
   obtain⟨a3,ha3⟩:∃ a3,a3=eI it.env 3:=⟨_,rfl⟩
   obtain⟨ft,hft⟩:∃ ft,ft=bA it.facts:=⟨_,rfl⟩
   rw[←ha0,←ha1,←ha2,←ha3] at HIN HLC2
   rw[←hru,←hft] at HLC2
   rw[←hft] at hfl
   have HFTT:=af hft
   have HRU:=af hru
   clear ha0 ha1 ha2 ha3 hft hru
   go_wp2_with fail
   go_loopw [7,11] (fun v t wr2=>∃ k:Nat,k≤F.length∧t=.int .i64 k∧wr2.ownsRow w.heap.size 136 6 v (i9 F c t1 t2 l i k).length (aI (i9 F c t1 t2 l i k))∧w.grownBy wr2 none) (fun _ t _=>F.length - (intOf t).toNat)
   case atStart=>exact⟨0,by omega,rfl,HOW.out,HG.out⟩
   case round=>
    obtain⟨k,hk,rfl,hown,hg⟩:=hrel
    have HG2:=af hg
    have HOW2:=af hown
    by_cases hltk:k<F.length
    ·obtain⟨k5,k0,k1,k2,k3,k6⟩:=HLC2.out wr HG2.out
     obtain⟨gf,hfa,_,_,hgf0,hfcell⟩:=aC HFROW.out (by omega)
     subst hfa
     have k4:wr.cell? ⟨gf,k,none⟩=some (.string (cq F[k].1 F[k].2.1)):=am HG2.out (hfcell _ _ (pZ F k hltk))
     have hsw:=hg.size
     have nb1:gl<wr.heap.size:=by omega
     have nb:gl≠wr.heap.size:=by omega
     have nf1:gf<wr.heap.size:=by omega
     have nf:gf≠wr.heap.size:=by omega
     have HC:=af (HIN.out k hltk)
     have HST:=af (HSTEP.out k hltk)
     have hol:=HOUT.out i k
     have hfz:=kr F[k].1 F[k].2.1
     have HFS:=af (vT it.facts F[k])
     have HSN:=af (fun e:fq=>lj (i9 F c t1 t2 l i k) ⟨it.rule,it.facts++[F[k]],e⟩)
     obtain⟨GO,hGO⟩:∃ GO,GO=gb it.env c t1 t2 F[k]:=⟨_,rfl⟩
     rw[←hGO] at HC HST
     obtain⟨fk,hfk⟩:∃ fk,fk=cq F[k].1 F[k].2.1:=⟨_,rfl⟩
     rw[←hfk] at HC HFS k4 hfz
     rw[←HFTT.out] at HFS
     obtain⟨av,mv,cv,rfl⟩:=an hown
     have em:=au hown
     subst em
     obtain⟨OL,hOL⟩:∃ OL,OL=i9 F c t1 t2 l i k:=⟨_,rfl⟩
     rw[←hOL] at HST HOW2 hol HSN ⊢
     clear hGO hfk hown hg hfcell hOL
     have HGRO:Hid (∀ w2,Fr [] wr w2→w.grownBy w2 none):=af (fun w2 h=>ae HG2.out (bG h))
     go_wp2_with fail
     go_cut [12,13] from 46 to 59 (fun p o wx=>∃ g e',p=.pointer (some ⟨g,0,none⟩)∧o=.bool GO.isSome∧wx.heap[g]?=some (.cells #[.int .i64 (eI e' 0),.int .i64 (eI e' 1),.int .i64 (eI e' 2),.int .i64 (eI e' 3)] 134 (0,0))∧(∀ e2,GO=some e2→e'=e2)∧Fr [] wr wx)
     case first=>
      go_region_held3 (fun W=>W.cell? ⟨gl,i*6+1,none⟩=some (.int .i64 a0)∧W.cell? ⟨gl,i*6+2,none⟩=some (.int .i64 a1)∧W.cell? ⟨gl,i*6+3,none⟩=some (.int .i64 a2)∧W.cell? ⟨gl,i*6+4,none⟩=some (.int .i64 a3)∧W.cell? ⟨gf,k,none⟩=some (.string fk)) (first|(with_reducible exact⟨m0,m1,m2,m3,m4⟩)|(simp only[World.cell?_drew];with_reducible exact⟨k0,k1,k2,k3,k4⟩)|(simp only[World.cell?_drew,cO nb1,cO nf1];with_reducible exact⟨k0,k1,k2,k3,k4⟩)|(simp only[cO nbw,cO nfw];with_reducible exact⟨m0,m1,m2,m3,m4⟩)|(simp only[eB nb,eB nf];with_reducible exact⟨m0,m1,m2,m3,m4⟩)) (first
       |(go_at_call 137
         refine (HC.out _).mono ?_
         rintro er w1 ⟨⟨e',rfl,hee⟩,hg1⟩
         have HEE:=af hee
         clear hee
         obtain⟨f0,hf0⟩:∃ f0,f0=eI e' 0:=⟨_,rfl⟩
         obtain⟨f1,hf1⟩:∃ f1,f1=eI e' 1:=⟨_,rfl⟩
         obtain⟨f2,hf2⟩:∃ f2,f2=eI e' 2:=⟨_,rfl⟩
         obtain⟨f3,hf3⟩:∃ f3,f3=eI e' 3:=⟨_,rfl⟩
         rw[←hf0,←hf1,←hf2,←hf3]
         have HE4:Hid (f0=eI e' 0∧f1=eI e' 1∧f2=eI e' 2∧f3=eI e' 3):=af ⟨hf0,hf1,hf2,hf3⟩
         clear hf0 hf1 hf2 hf3
         have hfr1:Fr [] wr w1:=by first|exact (ar (Fr.refl [] wr)).trans (aK hg1)|exact (ar (aA wr _)).trans (aK hg1)|exact ((ar (Fr.refl [] wr)).alloc _).trans (aK hg1)
         have nbw:gl<w1.heap.size:=Nat.lt_of_lt_of_le nb1 hfr1.size
         have nfw:gf<w1.heap.size:=Nat.lt_of_lt_of_le nf1 hfr1.size
         have m0:=aE hfr1 k0
         have m1:=aE hfr1 k1
         have m2:=aE hfr1 k2
         have m3:=aE hfr1 k3
         have m4:=aE hfr1 k4
         have HF1:=af hfr1
         clear hfr1
         try (
          have hnew:w1.heap[wr.heap.size]?=some (.cells #[.int .i64 0,.int .i64 0,.int .i64 0,.int .i64 0] 134 (0,0)):=(hg1.block wr.heap.size (by simp) (by simp)).trans (heap_alloc_new _ _)
          have n0:w1.cell? ⟨wr.heap.size,0,none⟩=some (.int .i64 0):=by rw[cell_of_row _ _ _ _ _ _ hnew];rfl
          have n1:w1.cell? ⟨wr.heap.size,1,none⟩=some (.int .i64 0):=by rw[cell_of_row _ _ _ _ _ _ hnew];rfl
          have n2:w1.cell? ⟨wr.heap.size,2,none⟩=some (.int .i64 0):=by rw[cell_of_row _ _ _ _ _ _ hnew];rfl
          have n3:w1.cell? ⟨wr.heap.size,3,none⟩=some (.int .i64 0):=by rw[cell_of_row _ _ _ _ _ _ hnew];rfl
          have z0:=ai hnew 0
          have z1:=ai hnew 1
          have z2:=ai hnew 2
          have z3:=ai hnew 3
          have HNEW:=af hnew
          clear hnew)
         clear hg1))
      all_goals go_wp2_with fail
      all_goals go_meet
      all_goals obtain⟨rfl,rfl,rfl,rfl⟩:=HE4.out
      all_goals first
       |exact⟨wr.heap.size,e',rfl,rfl,ah (ah (ah (ah HNEW.out _ _) _ _) _ _) _ _,HEE.out,lD HF1.out _ _ _ _⟩
       |exact⟨w1.heap.size,e',rfl,rfl,heap_alloc_new w1 _,HEE.out,HF1.out.alloc _⟩
     case rest=>
     obtain⟨g,e',rfl,rfl,hge,hee,hfr⟩:=hcut
     have c0:=aE hfr k5
     have c6:=aE hfr k6
     have c4:=aE hfr k4
     have HFR:=af hfr
     have HGC:=af (HGRO.out _ hfr)
     have how:=aq HOW2.out (bG hfr) (fun g hg=>by cases hg)
     clear k0 k1 k2 k3 k4 k5 k6 nb nb1 nf nf1 hfr HC
     cases GO with
     |none=>
      have HF2:Hid (i9 F c t1 t2 l i (k+1)=OL):=af (by rw[HST.out];simp)
      have HO1:=af how
      simp only[Option.isSome_none]
      clear how hge hee
      go_wp2_with fail
      go_roundw
      case rel=>exact⟨k+1,by omega,by go_num,by rw[HF2.out];exact HO1.out,HGC.out⟩
      case measure=>simp[intOf];omega
     |some e2=>
      have ee:=hee e2 rfl
      subst ee
      have HF2:Hid (i9 F c t1 t2 l i (k+1)=OL++[⟨it.rule,it.facts++[F[k]],e'⟩]):=af (by rw[HST.out];rfl)
      have HDC:Hid (aI (OL++[⟨it.rule,it.facts++[F[k]],e'⟩])=aI OL++[.int .i64 ru,.int .i64 (eI e' 0),.int .i64 (eI e' 1),.int .i64 (eI e' 2),.int .i64 (eI e' 3),.string (ft++fk)]):=af (by rw[HSN.out,HFS.out,HRU.out])
      have f0:wc.cell? ⟨g,0,none⟩=some (.int .i64 (eI e' 0)):=by rw[cell_of_row _ _ _ _ _ _ hge];rfl
      have f1:wc.cell? ⟨g,1,none⟩=some (.int .i64 (eI e' 1)):=by rw[cell_of_row _ _ _ _ _ _ hge];rfl
      have f2:wc.cell? ⟨g,2,none⟩=some (.int .i64 (eI e' 2)):=by rw[cell_of_row _ _ _ _ _ _ hge];rfl
      have f3:wc.cell? ⟨g,3,none⟩=some (.int .i64 (eI e' 3)):=by rw[cell_of_row _ _ _ _ _ _ hge];rfl
      have hown0:∀ b,(Value.slice av OL.length cv).ownBlock=some b→w.heap.size≤b:=fun b hb=>(how.lt b hb).1
      have nml:gl∉(Value.slice av OL.length cv).ownBlock.toList:=fun e=>by have:=hown0 gl (by simpa using e);omega
      have nmf:gf∉(Value.slice av OL.length cv).ownBlock.toList:=fun e=>by have:=hown0 gf (by simpa using e);omega
      have nmg:g∉(Value.slice av OL.length cv).ownBlock.toList:=fun e=>aU how hge (by decide) (by simpa using e)
      have HN3:=af (And.intro nml (And.intro nmf nmg))
      have hsc:=HGC.out.size
      have nl1:gl<wc.heap.size:=by omega
      have nf1:gf<wc.heap.size:=by omega
      have ng1:=lt_of_block hge
      have HO1:=af how
      have HAL:Hid (∀ b,(Value.slice av OL.length cv).ownBlock=some b→w.heap.size≤b):=af hown0
      obtain⟨x0,hx0⟩:∃ x0,x0=eI e' 0:=⟨_,rfl⟩
      obtain⟨x1,hx1⟩:∃ x1,x1=eI e' 1:=⟨_,rfl⟩
      obtain⟨x2,hx2⟩:∃ x2,x2=eI e' 2:=⟨_,rfl⟩
      obtain⟨x3,hx3⟩:∃ x3,x3=eI e' 3:=⟨_,rfl⟩
      rw[←hx0] at f0
      rw[←hx1] at f1
      rw[←hx2] at f2
      rw[←hx3] at f3
      rw[←hx0,←hx1,←hx2,←hx3] at HDC
      have hns:(9223372036854775807<ft.size+3)=False:=by simp;omega
      simp only[Option.isSome_some]
      clear hge hee hx0 hx1 hx2 hx3 nml nmf nmg hown0
      go_wp2_with fail
      go_region_held3 (fun W=>W.cell? ⟨gl,i*6,none⟩=some (.int .i64 ru)∧W.cell? ⟨g,0,none⟩=some (.int .i64 x0)∧W.cell? ⟨g,1,none⟩=some (.int .i64 x1)∧W.cell? ⟨g,2,none⟩=some (.int .i64 x2)∧W.cell? ⟨g,3,none⟩=some (.int .i64 x3)∧W.cell? ⟨gl,i*6+5,none⟩=some (.string ft)∧W.cell? ⟨gf,k,none⟩=some (.string fk)) (first|(with_reducible exact⟨p0,p1,p2,p3,p4,p5,p6⟩)|(simp only[World.cell?_drew];with_reducible exact⟨c0,f0,f1,f2,f3,c6,c4⟩)|(simp only[World.cell?_drew,cO nl1,cO nf1,cO ng1];with_reducible exact⟨c0,f0,f1,f2,f3,c6,c4⟩)) (first
       |(refine step_append_lies _ rfl (.tmp 61) (.tmp 79) 130 rfl w.heap.size 136 i0 (.agg #[.int .i64 0,.int .i64 0,.int .i64 0,.int .i64 0,.int .i64 0,.string ByteArray.empty]) 6 56 Tryz.underlying130 hi0 hz0 hz1 hz2 rfl (by decide) (.slice av OL.length cv) OL.length (aI OL) (by simp[Act.eval]) (dn (HO1.out.alloc (.cells #[.int .i64 ru,.int .i64 x0,.int .i64 x1,.int .i64 x2,.int .i64 x3,.string (ft++fk)] 136)) rfl) ⟨wc.heap.size,0,none⟩ 1 1 [.int .i64 ru,.int .i64 x0,.int .i64 x1,.int .i64 x2,.int .i64 x3,.string (ft++fk)] (by simp[Act.eval]) rfl (fun j u hj=>by
          have:=bj (w:=wc) (t:=136) hj
          simpa using this) (fun u hu=>by simp at hu;rcases hu with h|h|h|h|h|h <;> subst h <;> rfl) (by decide) (by unfold maxLen;omega) (by omega) (by simp;omega) _ rfl (fun g3 c3 w3 hown3 hg3 hva3 hvl3=>?_)
         have hfx:Fr (Value.slice av OL.length cv).ownBlock.toList wc w3:=by first|exact ((ar (aA wc _)).mono (fun k hk=>by cases hk)).trans (Fr.grown hg3)|exact (((ar (Fr.refl [] wc)).alloc _).mono (fun k hk=>by cases hk)).trans (Fr.grown hg3)
         have p0:=bD hfx c0 HN3.out.1
         have p1:=bD hfx f0 HN3.out.2.2
         have p2:=bD hfx f1 HN3.out.2.2
         have p3:=bD hfx f2 HN3.out.2.2
         have p4:=bD hfx f3 HN3.out.2.2
         have p5:=bD hfx c6 HN3.out.1
         have p6:=bD hfx c4 HN3.out.2.1
         have HFX:=af hfx
         have HOX:=af hown3
         clear hfx hown3 hg3 hva3))
      have HGX:Hid (w.grownBy w3 none):=af ⟨HFX.out.os.trans HGC.out.os,HFX.out.tape.trans HGC.out.tape,HFX.out.output.trans HGC.out.output,Nat.le_trans HGC.out.size HFX.out.size,fun b hb _=>(HFX.out.block b (by omega) (fun e=>by have:=HAL.out b (by simpa using e);omega)).trans (HGC.out.block b hb (by simp))⟩
      have HO3:Hid (w3.ownsRow w.heap.size 136 6 (.slice (some ⟨g3,0,none⟩) (OL.length+1) c3) (i9 F c t1 t2 l i (k+1)).length (aI (i9 F c t1 t2 l i (k+1)))):=af (by rw[HF2.out,HDC.out];simpa using HOX.out)
      clear p0 p1 p2 p3 p4 p5 p6
      go_wp2_with fail
      go_roundw
      case rel=>exact⟨k+1,by omega,by go_num,HO3.out,HGX.out⟩
      case measure=>simp[intOf];omega
    ·have e:k=F.length:=by omega
     subst e
     rw[HNEXT.out] at HOW2
     clear hown hg
     go_wp2_with fail
     go_roundw
     case rel=>exact⟨i+1,by omega,by go_num,HOW2.out,HG2.out⟩
     case measure=>simp[intOf];omega
  ·have e:i=l.length:=by omega
   subst e
   rw[BP] at HOW
   clear hown hg
   go_wp2_with fail
   go_ret
   exact⟨_,rfl,HOW.out,HG.out⟩
theorem y9 {s:ByteArray}{i:Nat}(h:bu s i=3):aR (bt s i)=true∧c7 (bt s (i+1))=true∧c7 (bt s (i+2))=true:=by
 unfold bu at h
 by_cases a:aR (bt s i)=true
 ·by_cases b:c7 (bt s (i+1))=true
  ·by_cases c:c7 (bt s (i+2))=true
   ·exact⟨a,b,c⟩
   ·simp[a,b,c] at h
  ·simp[a,b] at h
 ·simp[a] at h
theorem EP {s:ByteArray}{i:Nat}(h:bS s i=3):bd (bt s i)=true∧gJ (bt s (i+1))=true∧bd (bt s (i+2))=true:=by
 unfold bS at h
 by_cases a:bd (bt s i)=true
 ·by_cases b:gJ (bt s (i+1))=true
  ·by_cases c:bd (bt s (i+2))=true
   ·exact⟨a,b,c⟩
   ·simp[a,b,c] at h
  ·simp[a,b] at h
 ·simp[a] at h
theorem FN (s:ByteArray)(F:List aw)(l:List In)(p:Nat)(la fa:Option Addr)(lc fc B B2:Nat)(w:World)(hs:s.size≤400)(hok:b7 s p=true)(hll:l.length≤1000000000)(hF:rk F)(hFl:F.length≤60)(hl:∀ i∈l,pK F i∧i.facts.length≤100)
  (hrow:w.ownsRow B 136 6 (.slice la l.length lc) l.length (aI l)) (hfrow:w.ownsRow B2 9 1 (.slice fa F.length fc) F.length (gC F)) :
  Calls Tryz.prog 115 #[.slice la l.length lc,.string (s.extract p (p+aH s p)),.slice fa F.length fc] w fun e w'=>∃ v,e=.returned v∧w'.ownsRow w.heap.size 136 6 v (kJ (-1) s F l p).length (aI (kJ (-1) s F l p))∧w.grownBy w' none:=by
 obtain⟨hc3,hcs,_⟩:=tB hok
 have hsz:(s.extract p (p+aH s p)).size=aH s p:=by rw[da hcs];omega
 have hb:∀ k,k<aH s p→bt (s.extract p (p+aH s p)) k=bt s (p+k):=fun k hk=>ka hcs hk
 have hle:aH s p≤400:=by omega
 unfold b7 at hok
 by_cases h33:bt s p=33
 ·simp only[h33,if_true] at hok
  have hpl:bu s (p+1)=3:=by simpa using hok
  have h4:aH s p=4:=by unfold aH;rw[if_pos h33];omega
  obtain⟨_,q1,q2⟩:=y9 hpl
  have hon:kJ (-1) s F l p=l.filter fun i=>fR F i.env (bt s (p+1)) (bt s (p+2)) (bt s (p+3)):=by unfold kJ;rw[if_pos h33]
  rw[hon]
  have hpa:ug ((s.extract p (p+aH s p)).extract 1 4) (bt s (p+1)) (bt s (p+2)) (bt s (p+3)):=by
   rw[pG hcs (by omega)]
   refine⟨by rw[da (by omega)];omega,?_,?_,?_⟩
   ·rw[iY (by omega) (by omega)]
   ·rw[iY (by omega) (by omega)]
   ·rw[iY (by omega) (by omega)]
  refine sd (fun i=>fR F i.env (bt s (p+1)) (bt s (p+2)) (bt s (p+3))) l _ la fa lc F.length fc B w (by omega) (by omega) (by rw[hb 0 (by omega)];rw[Nat.add_zero,h33];rfl) hll hrow (af (fun k hk W hW=>?_))
  exact BT l[k].env _ _ _ F _ fa fc B2 W (by omega) (by rw[hb 0 (by omega)];exact h33) hpa hF hFl q1 q2 (hl _ (List.getElem_mem hk)).1.env (aq hfrow hW (fun g hg=>by cases hg))
 ·simp only[h33,if_false] at hok
  by_cases hc:aR (bt s p)=true
  ·rw[if_pos hc] at hok
   have hpl:bu s p=3:=by simpa using hok
   have h3:aH s p=3:=by unfold aH;rw[if_neg h33,if_pos hc];exact hpl
   obtain⟨_,q1,q2⟩:=y9 hpl
   have hon:kJ (-1) s F l p=l.flatMap (iF F (bt s p) (bt s (p+1)) (bt s (p+2))):=by unfold kJ;rw[if_neg h33,if_pos hc]
   rw[hon]
   exact Fq F _ _ _ l _ la fa lc fc B B2 w ⟨by omega,hb 0 (by omega),hb 1 (by omega),hb 2 (by omega)⟩ (by omega) hc q1 q2 hll hF hFl hl hrow hfrow
  ·rw[if_neg hc] at hok
   have htl:bS s p=3:=by simpa using hok
   have h3:aH s p=3:=by unfold aH;rw[if_neg h33,if_neg hc];exact htl
   obtain⟨q0,q1,q2⟩:=EP htl
   have hon:kJ (-1) s F l p=l.filter fun i=>iy (bt s (p+1)) (fF (-1) i.env (bt s p)) (fF (-1) i.env (bt s (p+2))):=by unfold kJ;rw[if_neg h33,if_neg hc]
   rw[hon]
   have hb0:bt (s.extract p (p+aH s p)) 0=bt s p:=hb 0 (by omega)
   have hb1:=hb 1 (by omega)
   have hb2:=hb 2 (by omega)
   refine sd (fun i=>iy (bt s (p+1)) (fF (-1) i.env (bt s p)) (fF (-1) i.env (bt s (p+2)))) l _ la fa lc F.length fc B w (by omega) (by omega) (by rw[hb0];simpa using hc) hll hrow (af (fun k hk W _=>?_))
   have:=BG l[k].env (s.extract p (p+aH s p)) fa F.length fc W (by omega) (by omega) (by rw[hb0];exact q0) (by rw[hb1];exact q1) (by rw[hb2];exact q2)
   rw[hb0,hb1,hb2] at this
   exact this
def es (z:Int)(s:ByteArray)(F:List aw)(r:Nat)(L:List Nat)(k:Nat):List In:=(L.take k).foldl (kJ z s F) [In.start r]
theorem oz {z:Int}{s:ByteArray}{F:List aw}{r:Nat}{L:List Nat}{k:Nat}(hk:k<L.length):es z s F r L (k+1)=kJ z s F (es z s F r L k) L[k]:=by
 unfold es
 rw[List.take_succ_eq_append_getElem hk,List.foldl_append]
 rfl
theorem qv {z:Int}{s:ByteArray}{F:List aw}{r:Nat}{L:List Nat}:es z s F r L L.length=dy z s F r L:=by
 unfold es dy
 rw[List.take_length]
theorem BC {F:List aw}{c t1 t2:Int}{i j:In}(h:j∈iF F c t1 t2 i):j.facts.length=i.facts.length+1∧j.rule=i.rule:=by
 unfold iF at h
 obtain⟨q,_,hm⟩:=List.mem_filterMap.mp h
 cases hg:gb i.env c t1 t2 q with
 |none=>rw[hg] at hm;cases hm
 |some e=>
  rw[hg] at hm
  simp only[Option.map_some,Option.some.injEq] at hm
  rw[←hm]
  simp
theorem AA {z:Int}{s:ByteArray}{F:List aw}{l:List In}{p n r:Nat}(hl:∀ i∈l,i.facts.length≤n∧i.rule=r):∀ j∈kJ z s F l p,j.facts.length≤n+1∧j.rule=r:=by
 intro j hj
 unfold kJ at hj
 split at hj
 ·have:=hl j (List.mem_filter.mp hj).1;exact⟨by omega,this.2⟩
 ·split at hj
  ·obtain⟨i,hi,hm⟩:=List.mem_flatMap.mp hj
   have h1:=BC hm
   have h2:=hl i hi
   exact⟨by omega,by rw[h1.2,h2.2]⟩
  ·have:=hl j (List.mem_filter.mp hj).1;exact⟨by omega,this.2⟩
theorem nV {z:Int}{s:ByteArray}{F:List aw}(hF:rk F)(hFl:F.length≤60){r:Nat}{L:List Nat}:∀ k,k≤L.length→(es z s F r L k).length≤60 ^ k∧∀ i∈es z s F r L k,pK F i∧i.facts.length≤k∧i.rule=r
 |0,_=>by
  refine⟨by simp[es],fun i hi=>?_⟩
  simp[es] at hi
  subst hi
  exact⟨t6 F r,by simp[In.start],rfl⟩
 |k+1,hk=>by
  obtain⟨h1,h2⟩:=nV hF hFl (z:=z) (s:=s) (r:=r) (L:=L) k (by omega)
  rw[oz (by omega)]
  refine⟨?_,fun i hi=>⟨C1 hF (fun j hj=>(h2 j hj).1) _ i hi,AA (fun j hj=>(h2 j hj).2) i hi⟩⟩
  have:=EX z s F hFl (es z s F r L k) (L[k]'(by omega))
  rw[Nat.pow_succ]
  exact Nat.le_trans this (Nat.mul_le_mul_right 60 h1)
theorem sg (z:Int)(s:ByteArray){F:List aw}(hF:rk F)(hFl:F.length≤60)(r:Nat){L:List Nat}(hL:L.length≤5):(dy z s F r L).length≤777600000:=by
 rw[←qv]
 have h1:=(nV hF hFl (z:=z) (s:=s) (r:=r) (L:=L) L.length (Nat.le_refl _)).1
 have h2:60 ^ L.length≤60 ^ 5:=Nat.pow_le_pow_right (by omega) hL
 have h3:(60:Nat) ^ 5=777600000:=by decide
 omega
theorem r6 (z:Int)(s:ByteArray){F:List aw}(hF:rk F)(hFl:F.length≤60){R:List ay}(hR:∀ k (h:k<R.length),R[k].2.1.length≤5):∀ n,n≤R.length→(bz z s F R n).length≤n*777600000
 |0,_=>by simp[bz]
 |n+1,hn=>by
  have ih:=r6 z s hF hFl hR n (by omega)
  rw[gi,List.length_append]
  have e:R.getD n (0,[],[])=R[n]:=by simp[List.getD,List.getElem?_eq_getElem (show n<R.length by omega)]
  have:=sg z s hF hFl n (hR n (by omega))
  rw[e]
  omega
theorem ya (l:List In):∀ u∈aI l,u.oneCell'=true:=by
 intro u hu
 unfold aI at hu
 obtain⟨i,_,h⟩:=List.mem_flatMap.mp hu
 simp at h
 rcases h with rfl|rfl|rfl|rfl|rfl|rfl <;> rfl
theorem mf (l m:List In):aI (l++m)=aI l++aI m:=by simp[aI]
theorem qu (l:List In):(aI l).length=l.length*6:=by
 induction l with
 |nil=>rfl
 |cons i l ih=>
  have e:aI (i::l)=.int .i64 i.rule::.int .i64 (eI i.env 0)::.int .i64 (eI i.env 1)::.int .i64 (eI i.env 2)::.int .i64 (eI i.env 3)::.string (bA i.facts)::aI l:=rfl
  rw[e]
  simp[ih]
  omega
theorem pk {w:World}{base:Nat}{e:TypeId}{size:Nat}{g m c n:Nat}{xs:List Value}(h:w.ownsRow base e size (.slice (some ⟨g,0,none⟩) m c) n xs):∀ j u,xs[j]?=some u→w.cell? ((⟨g,0,none⟩:Addr).add j)=some u:=by
 intro j u hj
 by_cases hn:0<n
 ·obtain⟨g',e1,_,_,_,hcell⟩:=aC h hn
  simp only[Option.some.injEq,Addr.mk.injEq,and_true] at e1
  rw[e1]
  have:=hcell j u hj
  have hadd:(⟨g',0,none⟩:Addr).add j=⟨g',j,none⟩:=by unfold Addr.add;split <;> simp_all
  rw[hadd]
  exact this
 ·have h1:=h.1
  have:n=0:=by omega
  subst this
  simp at h1
  rw[h1] at hj
  simp at hj
theorem Ee {w:World}{e:TypeId}{base size:Nat}{cs:List Value}(hb:base≤w.heap.size)(hs:cs.length=size):(w.alloc (.cells cs.toArray e)).ownsRow base e size (.slice (some ⟨w.heap.size,0,none⟩) 1 1) 1 cs:=
 ⟨by simp[hs],.inr ⟨w.heap.size,1,cs.toArray,rfl,hb,heap_alloc_new w _,Nat.le_refl 1,by unfold maxLen;omega,by simp[hs],by simp[←hs]⟩⟩
theorem Ew (s:ByteArray)(R:List ay)(F:List aw)(ra fa:Option Addr)(rc fc:Nat)(xs:List Value)(w:World)(hs:s.size≤400)(hR:∀ r∈R,gg s r)(hR9:R.length≤9)(hR5:∀ k (h:k<R.length),R[k].2.1.length≤5)(hF:rk F)(hFl:F.length≤60)
  (hrow:w.ownsRow 0 155 3 (.slice ra R.length rc) R.length xs) (hpar:gh w 0 s R xs) (hfrow:w.ownsRow 0 9 1 (.slice fa F.length fc) F.length (gC F)) :
  Calls Tryz.prog 91 #[.slice ra R.length rc,.slice fa F.length fc] w fun e w'=>∃ v,e=.returned v∧w'.ownsRow w.heap.size 136 6 v (bz (-1) s F R R.length).length (aI (bz (-1) s F R R.length))∧w.grownBy w' none:=by
 obtain⟨i0,hi0,hz0,hz1,hz2⟩:=info_parts Tryz.info136
 have HROW:=af hrow
 have HPAR:=af hpar
 have HFR:=af hfrow
 have HR5:=af hR5
 have HILEN:=af (r6 (-1) s hF hFl hR5)
 have HRL:=af (fun r (L:List Nat) (h:L.length≤5)=>sg (-1) s hF hFl r h)
 have HON:Hid (∀ (i:Nat) (hi:i<R.length) (k:Nat) (hk:k<R[i].2.1.length) (la:Option Addr) (lc:Nat) (W:World),w.grownBy W none→W.ownsRow w.heap.size 136 6 (.slice la (es (-1) s F i R[i].2.1 k).length lc) (es (-1) s F i R[i].2.1 k).length (aI (es (-1) s F i R[i].2.1 k))→
   Calls Tryz.prog 115 #[.slice la (es (-1) s F i R[i].2.1 k).length lc,.string (s.extract R[i].2.1[k] (R[i].2.1[k]+aH s R[i].2.1[k])),.slice fa F.length fc] W fun e w'=>∃ v,e=.returned v∧w'.ownsRow W.heap.size 136 6 v (es (-1) s F i R[i].2.1 (k+1)).length (aI (es (-1) s F i R[i].2.1 (k+1)))∧W.grownBy w' none):=af (by
  intro i hi k hk la lc W hW ho
  have hb:=nV hF hFl (z:=-1) (s:=s) (r:=i) (L:=R[i].2.1) k (by omega)
  have h5:=hR5 i hi
  have hp:60 ^ k≤60 ^ 5:=Nat.pow_le_pow_right (by omega) (by omega)
  have h3:(60:Nat) ^ 5=777600000:=by decide
  rw[oz hk]
  exact FN s F _ R[i].2.1[k] la fa lc fc w.heap.size 0 W hs (lz (hR _ (List.getElem_mem hi)).conds rfl _ (List.getElem_mem hk)) (by omega) hF hFl (fun x hx=>⟨(hb.2 x hx).1,by have:=(hb.2 x hx).2.1;omega⟩) ho (aq hfrow hW (fun g hg=>by cases hg)))
 clear hrow hpar hfrow hR hF hR5
 go_enter Tryz.func91,Tryz.ntmps91
 go_wp2_with fail
 go_loopw [5,6] (fun v t wr=>∃ i:Nat,i≤R.length∧t=.int .i64 i∧wr.ownsRow w.heap.size 136 6 v (bz (-1) s F R i).length (aI (bz (-1) s F R i))∧w.grownBy wr none) (fun _ t _=>R.length - (intOf t).toNat)
 case atStart=>exact⟨0,by omega,rfl,World.ownsRow_nil _ _ _ _,ag _ _⟩
 case round=>
  obtain⟨i,hi,rfl,hown,hg⟩:=hrel
  generalize wr=W1 at*
  have HG:=af hg
  have HOW:=af hown
  by_cases hlt:i<R.length
  ·obtain⟨v0,hv0⟩:∃ v0,v0=(R[i].2.1):=⟨_,rfl⟩
   have HONI:=af (HON.out i hlt)
   have hL5:=HR5.out i hlt
   have HNS:=af (gi (-1) s F R i)
   have hnl:=HILEN.out i (by omega)
   have hml:=HRL.out i R[i].2.1 hL5
   have egd:R.getD i (0,[],[])=R[i]:=by simp[List.getD,List.getElem?_eq_getElem hlt]
   rw[egd] at HNS
   obtain⟨a1,m1,c1,a2,m2,c2,x0,x1,x2,o1,o2⟩:=iL R xs HPAR.out i hlt
   obtain⟨gr,hra,_,_,hgr,hrcell⟩:=aC HROW.out (by omega)
   subst hra
   have HRC:Hid (∀ W,w.grownBy W none→W.cell? ⟨gr,i*3+1,none⟩=some (.slice a1 m1 c1)):=af (fun W hW=>am hW (hrcell _ _ x1))
   have em1:=au o1
   subst em1
   have HCT:Hid (∀ k (hk:k<R[i].2.1.length) W,w.grownBy W none→∃ gc,a1=some ⟨gc,0,none⟩∧W.cell? ⟨gc,k,none⟩=some (.string (s.extract R[i].2.1[k] (R[i].2.1[k]+aH s R[i].2.1[k])))):=af (fun k hk W hW=>by
    obtain⟨gc,e,_,_,_,hcell⟩:=aC o1 (by omega)
    refine⟨gc,e,am hW (hcell k _ ?_)⟩
    simp[dJ,hk])
   have HBA:=af (qv (z:=-1) (s:=s) (F:=F) (r:=i) (L:=R[i].2.1))
   rw[←hv0] at HONI HNS HCT HBA hL5 hml HRC
   have HLK:=af hv0
   obtain⟨av,mv,cv,rfl⟩:=an hown
   have em:=au hown
   subst em
   have hsz:=hg.size
   have HST:Hid ((W1.alloc (.cells #[.int .i64 i,.int .i64 (-1),.int .i64 (-1),.int .i64 (-1),.int .i64 (-1),.string ByteArray.empty] 136)).ownsRow w.heap.size 136 6 (.slice (some ⟨W1.heap.size,0,none⟩) 1 1) (es (-1) s F i v0 0).length (aI (es (-1) s F i v0 0))):=af (Ee (w:=W1) (cs:=[.int .i64 i,.int .i64 (-1),.int .i64 (-1),.int .i64 (-1),.int .i64 (-1),.string ByteArray.empty]) hsz rfl)
   clear hv0 x0 x1 x2 o1 o2 hrcell hown hg egd
   go_wp2_with fail
   have HGA:Hid (W1.grownBy (W1.alloc (.cells #[.int .i64 i,.int .i64 (-1),.int .i64 (-1),.int .i64 (-1),.int .i64 (-1),.string ByteArray.empty] 136)) none):=af (ab (ag _ _) _)
   go_loopw [7,8] (fun v t wr2=>∃ k:Nat,k≤v0.length∧t=.int .i64 k∧wr2.ownsRow w.heap.size 136 6 v (es (-1) s F i v0 k).length (aI (es (-1) s F i v0 k))∧W1.grownBy wr2 none) (fun _ t _=>v0.length - (intOf t).toNat)
   case atStart=>exact⟨0,by omega,rfl,HST.out,HGA.out⟩
   case round=>
    obtain⟨k,hk,rfl,hown,hg2⟩:=hrel
    have HG2:=af hg2
    have HOW2:=af hown
    have q1:=HRC.out _ (ae HG.out hg2)
    obtain⟨lv,lm,lcv,rfl⟩:=an hown
    have em:=au hown
    subst em
    by_cases hltk:k<v0.length
    ·obtain⟨gc,rfl,q2⟩:=HCT.out k hltk _ (ae HG.out hg2)
     have HC:=af (HONI.out k hltk lv lcv _ (ae HG.out hg2) hown)
     obtain⟨ct,hct⟩:∃ ct,ct=s.extract v0[k] (v0[k]+aH s v0[k]):=⟨_,rfl⟩
     rw[←hct] at q2 HC
     have hsz2:=(ae HG.out hg2).size
     clear hct hown hg2
     go_wp2_with fail
     go_at_call 115
     refine HC.out.mono ?_
     rintro er w1 ⟨v1,rfl,ho1,hg1⟩
     have HO1:=af (bN ho1 hsz2)
     have HG1:=af hg1
     clear ho1 hg1
     go_wp2_with fail
     go_roundw
     case rel=>exact⟨k+1,by omega,by go_num,HO1.out,ae HG2.out HG1.out⟩
     case measure=>simp[intOf];omega
    ·have ek:k=v0.length:=by omega
     subst ek
     rw[HBA.out] at HOW2 hown ⊢
     have how2:=aq HOW.out hg2 (fun g hg=>by cases hg)
     have HAPP:Hid (aI (bz (-1) s F R (i+1))=aI (bz (-1) s F R i)++aI (dy (-1) s F i v0)):=af (by rw[HNS.out,mf])
     have HAPL:Hid ((bz (-1) s F R (i+1)).length=(bz (-1) s F R i).length+(dy (-1) s F i v0).length):=af (by rw[HNS.out,List.length_append])
     have hdl:=qu (dy (-1) s F i v0)
     have HD1:=af (ya (dy (-1) s F i v0))
     obtain⟨IR,hIR⟩:∃ IR,IR=dy (-1) s F i v0:=⟨_,rfl⟩
     rw[←hIR] at hown HAPP HAPL hdl HD1 hml HOW2 ⊢
     obtain⟨IN,hIN⟩:∃ IN,IN=bz (-1) s F R i:=⟨_,rfl⟩
     rw[←hIN] at how2 HAPP HAPL hnl HOW ⊢
     have hsz2:=(ae HG.out hg2).size
     have HOWN2:=af how2
     have HOWN:=af hown
     clear hIR hIN hg2
     cases lv with
     |none=>
      have hz:IR.length=0∧lcv=0:=by
       obtain⟨_,h2⟩:=hown
       rcases h2 with ⟨e,h3⟩|⟨_,_,_,e,_⟩
       ·simp only[Value.slice.injEq] at e
        exact⟨e.2.1,e.2.2⟩
       ·simp at e
      have hIRn:IR=[]:=List.length_eq_zero_iff.mp hz.1
      have HO3:Hid (wr.ownsRow w.heap.size 136 6 (.slice av IN.length cv) (bz (-1) s F R (i+1)).length (aI (bz (-1) s F R (i+1)))):=af (by
       rw[HAPP.out,HAPL.out,hIRn]
       simpa [aI] using HOWN2.out)
      obtain⟨hz1',hz2'⟩:=hz
      subst hz2'
      rw[hz1']
      clear hown hdl
      go_wp2_with (first|(at_builtin;refine wpList_append_own_none rfl (.tmp 40) (.tmp 41) 130 rfl w.heap.size 136 i0 6 Tryz.underlying130 hi0 _ _ _ rfl how2 rfl ?_))
      go_roundw
      case rel=>exact⟨i+1,by omega,by go_num,HO3.out,ae HG.out HG2.out⟩
      case measure=>simp[intOf];omega
     |some la=>
      obtain⟨gs,hgs⟩:∃ gs,la=⟨gs,0,none⟩:=by
       obtain⟨_,h2⟩:=hown
       rcases h2 with ⟨e,_⟩|⟨g',_,_,e,_⟩
       ·simp at e
       ·simp only[Value.slice.injEq,Option.some.injEq] at e
        exact⟨g',e.1⟩
      subst hgs
      go_wp2_with (first|(at_builtin;refine wpList_append_own _ rfl (.tmp 40) (.tmp 41) 130 rfl (w.heap.size) 136 i0 (.agg #[.int .i64 0,.int .i64 0,.int .i64 0,.int .i64 0,.int .i64 0,.string ByteArray.empty]) 6 56 Tryz.underlying130 hi0 hz0 hz1 hz2 rfl (by decide) _ _ _ rfl how2 _ IR.length lcv (aI IR) rfl hdl (pk HOWN.out) HD1.out ?c3 ?c4 hsz2 ?_))
      case c3=>unfold maxLen;omega
      case c4=>omega
      ·intro v' w3 hown3 hg3 _
       have HO3:Hid (w3.ownsRow w.heap.size 136 6 v' (bz (-1) s F R (i+1)).length (aI (bz (-1) s F R (i+1)))):=af (by rw[HAPP.out,HAPL.out];exact hown3)
       have HG3:Hid (w.grownBy w3 none):=af (aL (ae HG.out HG2.out) hg3 (fun g hg=>(HOWN2.out.lt g hg).1))
       clear hown3 hg3
       go_wp2_with fail
       go_roundw
       case rel=>exact⟨i+1,by omega,by go_num,HO3.out,HG3.out⟩
       case measure=>simp[intOf];omega
  ·have e:i=R.length:=by omega
   subst e
   clear hown hg
   go_wp2_with fail
   go_ret
   exact⟨_,rfl,HOW.out,HG.out⟩
end Go.Proofs.YthlhbjnkohinmaaGreat
