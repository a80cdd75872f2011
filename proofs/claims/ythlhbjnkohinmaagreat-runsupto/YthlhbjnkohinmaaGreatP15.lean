import Derived.Test.YthlhbjnkohinmaaGreatP14
namespace Go.Proofs.YthlhbjnkohinmaaGreat
set_option maxRecDepth 100000
set_option maxHeartbeats 8000000
open Go.RowKit
theorem BW {F:List aw}{e:fu}{c t1 t2:Int}{j:Nat}(hj:j<F.length)(h:(fW e c t1 t2 F[j]).isSome=true):fR F e c t1 t2=false:=by
 unfold fR
 rw[List.all_eq_false]
 refine⟨F[j],List.getElem_mem hj,?_⟩
 cases hg:fW e c t1 t2 F[j] with
 |none=>rw[hg] at h;cases h
 |some e'=>simp
theorem EW {F:List aw}{e:fu}{c t1 t2:Int}(h:∀ j (hj:j<F.length),fW e c t1 t2 F[j]=none):fR F e c t1 t2=true:=by
 unfold fR
 rw[List.all_eq_true]
 intro q hq
 obtain⟨j,hj,rfl⟩:=List.mem_iff_getElem.mp hq
 rw[h j hj];rfl
theorem Cq (e:fu)(k c g t1 t2:Int)(F:List aw)(fa:Option Addr)(fc B:Nat)(w:World)(h1:c9 t1=true)(h2:c9 t2=true)(hFl:F.length≤60)
  (hrow:w.ownsRow B 114 4 (.slice fa F.length fc) F.length (bG F)) :
  Calls Tryz.prog 134 #[jq e,jp k c g t1 t2,.slice fa F.length fc] w fun r w'=>r=.returned (.bool (!(fR F e c t1 t2)))∧w.grownBy w' none:=by
 have HGO:Hid (∀ (j:Nat) (hj:j<F.length) (W:World),Calls Tryz.prog 144 #[jq e,jp k c g t1 t2,ld F[j]] W fun r w'=>(∃ e',r=.returned (.tuple #[jq e',.bool (fW e c t1 t2 F[j]).isSome])∧∀ e2,fW e c t1 t2 F[j]=some e2→e'=e2)∧W.grownBy w' none):=af (fun j hj W=>nQ e k c g t1 t2 F[j] W h1 h2)
 obtain⟨r,hr⟩:∃ r,r=fR F e c t1 t2:=⟨_,rfl⟩
 rw[←hr]
 have HR:=af hr
 have HROW:=af hrow
 unfold jq jp ld at HGO
 unfold jq jp
 obtain⟨a0,ha0⟩:∃ a,a=dB e 0:=⟨_,rfl⟩
 obtain⟨a1,ha1⟩:∃ a,a=dB e 1:=⟨_,rfl⟩
 obtain⟨a2,ha2⟩:∃ a,a=dB e 2:=⟨_,rfl⟩
 obtain⟨a3,ha3⟩:∃ a,a=dB e 3:=⟨_,rfl⟩
 obtain⟨a4,ha4⟩:∃ a,a=dI e 0:=⟨_,rfl⟩
 obtain⟨a5,ha5⟩:∃ a,a=dI e 1:=⟨_,rfl⟩
 obtain⟨a6,ha6⟩:∃ a,a=dI e 2:=⟨_,rfl⟩
 obtain⟨a7,ha7⟩:∃ a,a=dI e 3:=⟨_,rfl⟩
 obtain⟨c1,hc1⟩:∃ a,a=c - 97:=⟨_,rfl⟩
 obtain⟨p1,hp1⟩:∃ a,a=dy t1:=⟨_,rfl⟩
 obtain⟨p2,hp2⟩:∃ a,a=dE t1:=⟨_,rfl⟩
 obtain⟨q1,hq1⟩:∃ a,a=dy t2:=⟨_,rfl⟩
 obtain⟨q2,hq2⟩:∃ a,a=dE t2:=⟨_,rfl⟩
 rw[←ha0,←ha1,←ha2,←ha3,←ha4,←ha5,←ha6,←ha7,←hc1,←hp1,←hp2,←hq1,←hq2] at HGO ⊢
 clear hr hrow h1 h2 ha0 ha1 ha2 ha3 ha4 ha5 ha6 ha7 hc1 hp1 hp2 hq1 hq2
 go_enter Tryz.func134,Tryz.ntmps134
 go_wp2_with fail
 have HWA:Hid (w.grownBy ((w.alloc (.cells #[.bool a0,.bool a1,.bool a2,.bool a3,.int .i64 a4,.int .i64 a5,.int .i64 a6,.int .i64 a7] 174)).alloc (.cells #[.int .i64 k,.int .i64 c1,.int .u8 g,.int .i64 p1,.int .i64 p2,.int .i64 q1,.int .i64 q2] 206)) none):=af (ab (ab (ag _ _) _) _)
 have HWB:Hid (((w.alloc (.cells #[.bool a0,.bool a1,.bool a2,.bool a3,.int .i64 a4,.int .i64 a5,.int .i64 a6,.int .i64 a7] 174)).alloc (.cells #[.int .i64 k,.int .i64 c1,.int .u8 g,.int .i64 p1,.int .i64 p2,.int .i64 q1,.int .i64 q2] 206)).heap[w.heap.size]?=some (.cells #[.bool a0,.bool a1,.bool a2,.bool a3,.int .i64 a4,.int .i64 a5,.int .i64 a6,.int .i64 a7] 174 (0,0))):=af ((Below.heap_alloc _ _ _ (by simp)).trans (heap_alloc_new w _))
 have HWC:Hid (((w.alloc (.cells #[.bool a0,.bool a1,.bool a2,.bool a3,.int .i64 a4,.int .i64 a5,.int .i64 a6,.int .i64 a7] 174)).alloc (.cells #[.int .i64 k,.int .i64 c1,.int .u8 g,.int .i64 p1,.int .i64 p2,.int .i64 q1,.int .i64 q2] 206)).heap[w.heap.size+1]?=some (.cells #[.int .i64 k,.int .i64 c1,.int .u8 g,.int .i64 p1,.int .i64 p2,.int .i64 q1,.int .i64 q2] 206 (0,0))):=af (bm (by simp))
 generalize (w.alloc (.cells #[.bool a0,.bool a1,.bool a2,.bool a3,.int .i64 a4,.int .i64 a5,.int .i64 a6,.int .i64 a7] 174)).alloc (.cells #[.int .i64 k,.int .i64 c1,.int .u8 g,.int .i64 p1,.int .i64 p2,.int .i64 q1,.int .i64 q2] 206)=WA at HWA HWB HWC ⊢
 generalize w.heap.size+1=cb at HWC ⊢
 generalize w.heap.size=b at HWB ⊢
 go_loopw [13] (fun t wr=>∃ j:Nat,j≤F.length∧t=.int .i64 j∧WA.grownBy wr none∧∀ i (hi:i<F.length),i<j→fW e c t1 t2 F[i]=none) (fun t _=>F.length - (intOf t).toNat)
 case atStart=>exact⟨0,by omega,rfl,ag _ _,fun i _ h=>by omega⟩
 case round=>
  obtain⟨j,hj,rfl,hgr,hno⟩:=hrel
  have HN:=af hno
  have HGR:=af hgr
  clear hno
  by_cases hlt:j<F.length
  ·have bB:=(hgr.block _ (lt_of_block HWB.out) (by simp)).trans HWB.out
   have cB:=(hgr.block _ (lt_of_block HWC.out) (by simp)).trans HWC.out
   have ka0:wr.cell? ⟨b,0,none⟩=some (.bool a0):=by rw[cell_of_row _ _ _ _ _ _ bB];rfl
   have ka1:wr.cell? ⟨b,1,none⟩=some (.bool a1):=by rw[cell_of_row _ _ _ _ _ _ bB];rfl
   have ka2:wr.cell? ⟨b,2,none⟩=some (.bool a2):=by rw[cell_of_row _ _ _ _ _ _ bB];rfl
   have ka3:wr.cell? ⟨b,3,none⟩=some (.bool a3):=by rw[cell_of_row _ _ _ _ _ _ bB];rfl
   have ka4:wr.cell? ⟨b,4,none⟩=some (.int .i64 a4):=by rw[cell_of_row _ _ _ _ _ _ bB];rfl
   have ka5:wr.cell? ⟨b,5,none⟩=some (.int .i64 a5):=by rw[cell_of_row _ _ _ _ _ _ bB];rfl
   have ka6:wr.cell? ⟨b,6,none⟩=some (.int .i64 a6):=by rw[cell_of_row _ _ _ _ _ _ bB];rfl
   have ka7:wr.cell? ⟨b,7,none⟩=some (.int .i64 a7):=by rw[cell_of_row _ _ _ _ _ _ bB];rfl
   have kc0:wr.cell? ⟨cb,0,none⟩=some (.int .i64 k):=by rw[cell_of_row _ _ _ _ _ _ cB];rfl
   have kc1:wr.cell? ⟨cb,1,none⟩=some (.int .i64 c1):=by rw[cell_of_row _ _ _ _ _ _ cB];rfl
   have kc2:wr.cell? ⟨cb,2,none⟩=some (.int .u8 g):=by rw[cell_of_row _ _ _ _ _ _ cB];rfl
   have kc3:wr.cell? ⟨cb,3,none⟩=some (.int .i64 p1):=by rw[cell_of_row _ _ _ _ _ _ cB];rfl
   have kc4:wr.cell? ⟨cb,4,none⟩=some (.int .i64 p2):=by rw[cell_of_row _ _ _ _ _ _ cB];rfl
   have kc5:wr.cell? ⟨cb,5,none⟩=some (.int .i64 q1):=by rw[cell_of_row _ _ _ _ _ _ cB];rfl
   have kc6:wr.cell? ⟨cb,6,none⟩=some (.int .i64 q2):=by rw[cell_of_row _ _ _ _ _ _ cB];rfl
   have how:=aq HROW.out (ae HWA.out hgr) (fun g hg=>by cases hg)
   obtain⟨gf,rfl,_,_,hgl,hcell⟩:=aE how (by omega)
   obtain⟨y0,y1,y2,y3⟩:=l8 F j hlt
   have d0:=hcell _ _ y0
   have d1:=hcell _ _ y1
   have d2:=hcell _ _ y2
   have d3:=hcell _ _ y3
   have n1:b<wr.heap.size:=lt_of_block bB
   have n2:cb<wr.heap.size:=lt_of_block cB
   have n3:b≠wr.heap.size:=by omega
   have n4:cb≠wr.heap.size:=by omega
   have n5:gf≠wr.heap.size:=by omega
   have HC:=af (HGO.out j hlt)
   have HSO:Hid ((fW e c t1 t2 F[j]).isSome=true→(!r)=true):=af (fun h=>by rw[HR.out,BW hlt h];rfl)
   have HNO:Hid ((fW e c t1 t2 F[j]).isSome=false→∀ i (hi:i<F.length),i<j+1→fW e c t1 t2 F[i]=none):=af (fun h i hi hij=>by
    by_cases ei:i=j
    ·subst ei
     cases hg:fW e c t1 t2 F[i] with
     |none=>rfl
     |some e'=>rw[hg] at h;cases h
    ·exact HN.out i hi (by omega))
   obtain⟨ok,hok⟩:∃ ok,ok=(fW e c t1 t2 F[j]).isSome:=⟨_,rfl⟩
   rw[←hok] at HC HSO HNO
   obtain⟨z0,hz0⟩:∃ z:Int,z=(F[j].1:Int) / 10:=⟨_,rfl⟩
   obtain⟨z1,hz1⟩:∃ z:Int,z=(F[j].1:Int) % 10:=⟨_,rfl⟩
   obtain⟨z2,hz2⟩:∃ z,z=F[j].2.1:=⟨_,rfl⟩
   obtain⟨z3,hz3⟩:∃ z,z=F[j].2.2:=⟨_,rfl⟩
   rw[←hz0,←hz1,←hz2,←hz3] at HC
   rw[←hz0] at d0
   rw[←hz1] at d1
   rw[←hz2] at d2
   rw[←hz3] at d3
   clear hok hz0 hz1 hz2 hz3 how hcell y0 y1 y2 y3 bB cB hgr
   go_wp2_with fail
   go_at_call 144
   refine (HC.out _).mono ?_
   rintro er w1 ⟨⟨e',rfl,_⟩,hg1⟩
   have HG1:Hid (WA.grownBy w1 none):=af (ae HGR.out (ae (ab (ag _ _) _) hg1))
   generalize dB e' 0=f0
   generalize dB e' 1=f1
   generalize dB e' 2=f2
   generalize dB e' 3=f3
   generalize dI e' 0=f4
   generalize dI e' 1=f5
   generalize dI e' 2=f6
   generalize dI e' 3=f7
   clear hg1
   cases ok with
   |true=>
    have HS:=af (HSO.out rfl)
    go_wp2_with fail
    go_ret
    exact⟨by rw[HS.out];rfl,ae HWA.out (ab HG1.out _)⟩
   |false=>
    have HN':=af (HNO.out rfl)
    go_wp2_with fail
    go_roundw
    case rel=>exact⟨j+1,by omega,by go_num,ab HG1.out _,HN'.out⟩
    case measure=>simp[intOf];omega
  ·have HS:Hid ((!r)=false):=af (by rw[HR.out,EW (fun i hi=>HN.out i hi (by omega))];rfl)
   clear hgr
   go_wp2_with fail
   go_ret
   exact⟨by rw[HS.out];rfl,ae HWA.out HGR.out⟩
def b9 (l:List aw):Int:=l.foldl (fun m q=>if q.2.2>m then q.2.2 else m) 0
theorem sC (l:List aw)(q:aw):b9 (l++[q])=if q.2.2>b9 l then q.2.2 else b9 l:=by unfold b9;rw[List.foldl_append];rfl
def vD (l:List aw)(k:Nat):aw:=l.getD k (0,0,0)
def aG (wt:Int)(i:In):List Value:=
 [.int .i64 i.rule,.int .i64 wt,.int .i64 (b9 i.facts),.int .i64 i.facts.length,
  .int .i64 (((vD i.facts 0).1:Int) / 10),.int .i64 (((vD i.facts 0).1:Int) % 10),.int .i64 (vD i.facts 0).2.1,.int .i64 (vD i.facts 0).2.2,
  .int .i64 (((vD i.facts 1).1:Int) / 10),.int .i64 (((vD i.facts 1).1:Int) % 10),.int .i64 (vD i.facts 1).2.1,.int .i64 (vD i.facts 1).2.2,
  .int .i64 (((vD i.facts 2).1:Int) / 10),.int .i64 (((vD i.facts 2).1:Int) % 10),.int .i64 (vD i.facts 2).2.1,.int .i64 (vD i.facts 2).2.2,
  .bool (dB i.env 0),.bool (dB i.env 1),.bool (dB i.env 2),.bool (dB i.env 3),.int .i64 (dI i.env 0),.int .i64 (dI i.env 1),.int .i64 (dI i.env 2),.int .i64 (dI i.env 3)]
def FV (wt:Int)(i:In):Value:=.agg (aG wt i).toArray
def Ch (wa la wb lb:Int):Bool:=if wa≠wb then decide (wa>wb) else decide (la>lb)
theorem tr (A B:Array Value)(wa la wb lb:Int)(w:World)(a1:A[1]?=some (.int .i64 wa))(a2:A[2]?=some (.int .i64 la))(b1:B[1]?=some (.int .i64 wb))(b2:B[2]?=some (.int .i64 lb)):
  Calls Tryz.prog 114 #[.agg A,.agg B] w fun r w'=>r=.returned (.bool (Ch wa la wb lb))∧w.grownBy w' none:=by
 obtain⟨r,hr⟩:∃ r,r=Ch wa la wb lb:=⟨_,rfl⟩
 rw[←hr]
 have k1:(w.alloc (.cells A 176)).heap[w.heap.size]?=some (.cells A 176 (0,0)):=bm rfl
 have k2:((w.alloc (.cells A 176)).alloc (.cells B 176)).heap[w.heap.size]?=some (.cells A 176 (0,0)):=(Below.heap_alloc _ _ _ (lt_of_block k1)).trans k1
 have k3:((w.alloc (.cells A 176)).alloc (.cells B 176)).heap[w.heap.size+1]?=some (.cells B 176 (0,0)):=bm (by simp)
 have d1:((w.alloc (.cells A 176)).alloc (.cells B 176)).cell? ⟨w.heap.size,1,none⟩=some (.int .i64 wa):=by rw[cell_of_row _ _ _ _ _ _ k2];exact a1
 have d2:((w.alloc (.cells A 176)).alloc (.cells B 176)).cell? ⟨w.heap.size,2,none⟩=some (.int .i64 la):=by rw[cell_of_row _ _ _ _ _ _ k2];exact a2
 have d3:((w.alloc (.cells A 176)).alloc (.cells B 176)).cell? ⟨w.heap.size+1,1,none⟩=some (.int .i64 wb):=by rw[cell_of_row _ _ _ _ _ _ k3];exact b1
 have d4:((w.alloc (.cells A 176)).alloc (.cells B 176)).cell? ⟨w.heap.size+1,2,none⟩=some (.int .i64 lb):=by rw[cell_of_row _ _ _ _ _ _ k3];exact b2
 have HWA:Hid (w.grownBy ((w.alloc (.cells A 176)).alloc (.cells B 176)) none):=af (ab (ab (ag _ _) _) _)
 clear k1 k2 k3 a1 a2 b1 b2
 go_enter Tryz.func114,Tryz.ntmps114
 by_cases hw:wa=wb
 ·subst hw
  have q:(wa != wa)=false:=by simp
  have hr':r=decide (la>lb):=by rw[hr];unfold Ch;rw[if_neg (by simp)]
  clear hr
  go_wp2_with fail
  go_ret
  exact⟨by rw[hr'];rfl,HWA.out⟩
 ·have q:(wa != wb)=true:=by simpa using hw
  have hr':r=decide (wa>wb):=by rw[hr];unfold Ch;rw[if_pos hw]
  clear hr
  go_wp2_with fail
  go_ret
  exact⟨by rw[hr'];rfl,HWA.out⟩
theorem qv (va vb:Int)(a b:In)(w:World):
  Calls Tryz.prog 114 #[FV va a,FV vb b] w fun r w'=>r=.returned (.bool (Ch va (b9 a.facts) vb (b9 b.facts)))∧w.grownBy w' none:=
 tr _ _ va _ vb _ w rfl rfl rfl rfl
theorem aF {w:World}{b:Nat}{A:Array Value}{t:TypeId}{cs:List Value}(h:w.heap[b]?=some (.cells A t (0,0)))(hA:A.toList=cs):w.rangeAt b 0 cs:=fun j v hv=>by
 rw[cell_of_row _ _ _ _ _ _ h,Nat.zero_add,←hv,←hA]
 simp
theorem jm {w:World}{k b i:Nat}{u:Value}(h:k≠b):(w.setCell ⟨b,i,none⟩ u).heap[k]?=w.heap[k]?:=Below.heap_setCell w ⟨b,i,none⟩ u k h
theorem gH {b:Nat}{t:TypeId}:∀ (vs:List Value) (o:Nat) (w:World) (p q r:List Value),p.length=o→r.length=vs.length→w.heap[b]?=some (.cells (p++r++q).toArray t (0,0))→(w.setCells b o vs).heap[b]?=some (.cells (p++vs++q).toArray t (0,0))
 |[],_,w,p,q,r,_,hr,h=>by
  have:r=[]:=by cases r with|nil=>rfl|cons a l=>cases hr
  rw[this] at h
  exact h
 |v::vs,o,w,p,q,r,hp,hr,h=>by
  cases r with
  |nil=>cases hr
  |cons x r=>
   have h1:=ah h o v
   have e:(p++x::r++q).toArray.setIfInBounds o v=((p++[v])++r++q).toArray:=by
    rw[List.setIfInBounds_toArray,←hp]
    simp
   rw[e] at h1
   have:=gH vs (o+1) (w.setCell ⟨b,o,none⟩ v) (p++[v]) q r (by simp[hp]) (by simpa using hr) h1
   rw[World.setCells,this]
   simp
theorem Dk (rl wt lt n x0 x1 x2 x3 x4 x5 x6 x7 x8 x9 x10 x11:Int)(a0 a1 a2 a3:Bool)(a4 a5 a6 a7:Int)(k c s p1 p2 q1 q2 y0 y1 y2 y3:Int)(w:World)
  (HGO:Hid (∀ W,Calls Tryz.prog 144 #[.agg #[.bool a0,.bool a1,.bool a2,.bool a3,.int .i64 a4,.int .i64 a5,.int .i64 a6,.int .i64 a7],.agg #[.int .i64 k,.int .i64 c,.int .u8 s,.int .i64 p1,.int .i64 p2,.int .i64 q1,.int .i64 q2],.agg #[.int .i64 y0,.int .i64 y1,.int .i64 y2,.int .i64 y3]] W fun r w'=>(∃ g0 g1 g2 g3 g4 g5 g6 g7,r=.returned (.tuple #[.agg #[.bool g0,.bool g1,.bool g2,.bool g3,.int .i64 g4,.int .i64 g5,.int .i64 g6,.int .i64 g7],.bool false]))∧W.grownBy w' none)) :
  Calls Tryz.prog 133 #[.agg #[.int .i64 rl,.int .i64 wt,.int .i64 lt,.int .i64 n,.int .i64 x0,.int .i64 x1,.int .i64 x2,.int .i64 x3,.int .i64 x4,.int .i64 x5,.int .i64 x6,.int .i64 x7,.int .i64 x8,.int .i64 x9,.int .i64 x10,.int .i64 x11,.bool a0,.bool a1,.bool a2,.bool a3,.int .i64 a4,.int .i64 a5,.int .i64 a6,.int .i64 a7],.agg #[.int .i64 k,.int .i64 c,.int .u8 s,.int .i64 p1,.int .i64 p2,.int .i64 q1,.int .i64 q2],.agg #[.int .i64 y0,.int .i64 y1,.int .i64 y2,.int .i64 y3]] w fun r w'=>r=.returned (.tuple #[.agg #[.int .i64 rl,.int .i64 wt,.int .i64 lt,.int .i64 n,.int .i64 x0,.int .i64 x1,.int .i64 x2,.int .i64 x3,.int .i64 x4,.int .i64 x5,.int .i64 x6,.int .i64 x7,.int .i64 x8,.int .i64 x9,.int .i64 x10,.int .i64 x11,.bool a0,.bool a1,.bool a2,.bool a3,.int .i64 a4,.int .i64 a5,.int .i64 a6,.int .i64 a7],.bool false])∧w.grownBy w' none:=by
 have HWA:Hid (w.grownBy ((((w.alloc (.cells #[.int .i64 rl,.int .i64 wt,.int .i64 lt,.int .i64 n,.int .i64 x0,.int .i64 x1,.int .i64 x2,.int .i64 x3,.int .i64 x4,.int .i64 x5,.int .i64 x6,.int .i64 x7,.int .i64 x8,.int .i64 x9,.int .i64 x10,.int .i64 x11,.bool a0,.bool a1,.bool a2,.bool a3,.int .i64 a4,.int .i64 a5,.int .i64 a6,.int .i64 a7] 176)).alloc (.cells #[.int .i64 k,.int .i64 c,.int .u8 s,.int .i64 p1,.int .i64 p2,.int .i64 q1,.int .i64 q2] 206)).alloc (.cells #[.int .i64 y0,.int .i64 y1,.int .i64 y2,.int .i64 y3] 114)).alloc (.cells #[.int .i64 0,.int .i64 0,.int .i64 0,.int .i64 0,.int .i64 0,.int .i64 0,.int .i64 0,.int .i64 0,.int .i64 0,.int .i64 0,.int .i64 0,.int .i64 0,.int .i64 0,.int .i64 0,.int .i64 0,.int .i64 0,.bool false,.bool false,.bool false,.bool false,.int .i64 0,.int .i64 0,.int .i64 0,.int .i64 0] 176)) none):=af (ab (ab (ab (ab (ag _ _) _) _) _) _)
 have HB0:Hid (((((w.alloc (.cells #[.int .i64 rl,.int .i64 wt,.int .i64 lt,.int .i64 n,.int .i64 x0,.int .i64 x1,.int .i64 x2,.int .i64 x3,.int .i64 x4,.int .i64 x5,.int .i64 x6,.int .i64 x7,.int .i64 x8,.int .i64 x9,.int .i64 x10,.int .i64 x11,.bool a0,.bool a1,.bool a2,.bool a3,.int .i64 a4,.int .i64 a5,.int .i64 a6,.int .i64 a7] 176)).alloc (.cells #[.int .i64 k,.int .i64 c,.int .u8 s,.int .i64 p1,.int .i64 p2,.int .i64 q1,.int .i64 q2] 206)).alloc (.cells #[.int .i64 y0,.int .i64 y1,.int .i64 y2,.int .i64 y3] 114)).alloc (.cells #[.int .i64 0,.int .i64 0,.int .i64 0,.int .i64 0,.int .i64 0,.int .i64 0,.int .i64 0,.int .i64 0,.int .i64 0,.int .i64 0,.int .i64 0,.int .i64 0,.int .i64 0,.int .i64 0,.int .i64 0,.int .i64 0,.bool false,.bool false,.bool false,.bool false,.int .i64 0,.int .i64 0,.int .i64 0,.int .i64 0] 176)).heap[w.heap.size]?=some (.cells #[.int .i64 rl,.int .i64 wt,.int .i64 lt,.int .i64 n,.int .i64 x0,.int .i64 x1,.int .i64 x2,.int .i64 x3,.int .i64 x4,.int .i64 x5,.int .i64 x6,.int .i64 x7,.int .i64 x8,.int .i64 x9,.int .i64 x10,.int .i64 x11,.bool a0,.bool a1,.bool a2,.bool a3,.int .i64 a4,.int .i64 a5,.int .i64 a6,.int .i64 a7] 176 (0,0))):=af (by
  rw[Below.heap_alloc _ _ _ (by simp;omega),Below.heap_alloc _ _ _ (by simp;omega),Below.heap_alloc _ _ _ (by simp)]
  exact bm rfl)
 have HB2:Hid (((((w.alloc (.cells #[.int .i64 rl,.int .i64 wt,.int .i64 lt,.int .i64 n,.int .i64 x0,.int .i64 x1,.int .i64 x2,.int .i64 x3,.int .i64 x4,.int .i64 x5,.int .i64 x6,.int .i64 x7,.int .i64 x8,.int .i64 x9,.int .i64 x10,.int .i64 x11,.bool a0,.bool a1,.bool a2,.bool a3,.int .i64 a4,.int .i64 a5,.int .i64 a6,.int .i64 a7] 176)).alloc (.cells #[.int .i64 k,.int .i64 c,.int .u8 s,.int .i64 p1,.int .i64 p2,.int .i64 q1,.int .i64 q2] 206)).alloc (.cells #[.int .i64 y0,.int .i64 y1,.int .i64 y2,.int .i64 y3] 114)).alloc (.cells #[.int .i64 0,.int .i64 0,.int .i64 0,.int .i64 0,.int .i64 0,.int .i64 0,.int .i64 0,.int .i64 0,.int .i64 0,.int .i64 0,.int .i64 0,.int .i64 0,.int .i64 0,.int .i64 0,.int .i64 0,.int .i64 0,.bool false,.bool false,.bool false,.bool false,.int .i64 0,.int .i64 0,.int .i64 0,.int .i64 0] 176)).heap[w.heap.size+1+1]?=some (.cells #[.int .i64 y0,.int .i64 y1,.int .i64 y2,.int .i64 y3] 114 (0,0))):=af (by
  rw[Below.heap_alloc _ _ _ (by simp)]
  exact bm (by simp))
 have HB3:Hid (((((w.alloc (.cells #[.int .i64 rl,.int .i64 wt,.int .i64 lt,.int .i64 n,.int .i64 x0,.int .i64 x1,.int .i64 x2,.int .i64 x3,.int .i64 x4,.int .i64 x5,.int .i64 x6,.int .i64 x7,.int .i64 x8,.int .i64 x9,.int .i64 x10,.int .i64 x11,.bool a0,.bool a1,.bool a2,.bool a3,.int .i64 a4,.int .i64 a5,.int .i64 a6,.int .i64 a7] 176)).alloc (.cells #[.int .i64 k,.int .i64 c,.int .u8 s,.int .i64 p1,.int .i64 p2,.int .i64 q1,.int .i64 q2] 206)).alloc (.cells #[.int .i64 y0,.int .i64 y1,.int .i64 y2,.int .i64 y3] 114)).alloc (.cells #[.int .i64 0,.int .i64 0,.int .i64 0,.int .i64 0,.int .i64 0,.int .i64 0,.int .i64 0,.int .i64 0,.int .i64 0,.int .i64 0,.int .i64 0,.int .i64 0,.int .i64 0,.int .i64 0,.int .i64 0,.int .i64 0,.bool false,.bool false,.bool false,.bool false,.int .i64 0,.int .i64 0,.int .i64 0,.int .i64 0] 176)).heap[w.heap.size+1+1+1]?=some (.cells #[.int .i64 0,.int .i64 0,.int .i64 0,.int .i64 0,.int .i64 0,.int .i64 0,.int .i64 0,.int .i64 0,.int .i64 0,.int .i64 0,.int .i64 0,.int .i64 0,.int .i64 0,.int .i64 0,.int .i64 0,.int .i64 0,.bool false,.bool false,.bool false,.bool false,.int .i64 0,.int .i64 0,.int .i64 0,.int .i64 0] 176 (0,0))):=af (bm (by simp))
 go_enter Tryz.func133,Tryz.ntmps133
 go_wp2_with fail
 go_at_call 144
 refine (HGO.out _).mono ?_
 rintro e w1 ⟨⟨g0,g1,g2,g3,g4,g5,g6,g7,rfl⟩,hg1⟩
 have HG1:=af hg1
 clear hg1
 have hB0:=(HG1.out.block _ (lt_of_block HB0.out) (by simp)).trans HB0.out
 have hB2:=(HG1.out.block _ (lt_of_block HB2.out) (by simp)).trans HB2.out
 have hB3:=(HG1.out.block _ (lt_of_block HB3.out) (by simp)).trans HB3.out
 have HG2:Hid (w.grownBy w1 none):=af (ae HWA.out HG1.out)
 have HS0:Hid (∀ W i v,w.grownBy W none→w.grownBy (W.setCell ⟨w.heap.size,i,none⟩ v) none):=af (fun W i v h=>aj h (.inr (by show w.heap.size≤w.heap.size;omega)) _)
 have HS3:Hid (∀ W i v,w.grownBy W none→w.grownBy (W.setCell ⟨w.heap.size+1+1+1,i,none⟩ v) none):=af (fun W i v h=>aj h (.inr (by show w.heap.size≤w.heap.size+1+1+1;omega)) _)
 have HSS:Hid (∀ W l,w.grownBy W none→w.grownBy (W.setCells (w.heap.size+1+1+1) 0 l) none):=af (fun W l h=>cy (by omega) _ _ h)
 have HS1:Hid (∀ W i v,w.grownBy W none→w.grownBy (W.setCell ⟨w1.heap.size,i,none⟩ v) none):=af (fun W i v h=>aj h (.inr (by show w.heap.size≤w1.heap.size;exact HG2.out.size)) _)
 have m0:(w.heap.size+1+1)≠w.heap.size:=by omega
 have m1:(w.heap.size+1+1+1)≠w.heap.size:=by omega
 have m2:(w.heap.size+1+1+1)≠(w.heap.size+1+1):=by omega
 have l0:=lt_of_block hB0
 have l2:=lt_of_block hB2
 have l3:=lt_of_block hB3
 clear HWA HB0 HB2 HB3 HG1
 generalize w.heap.size+1+1+1=b3 at hB3 HS3 HSS m1 m2 l3 ⊢
 generalize w.heap.size+1+1=b2 at hB2 m0 m2 l2 ⊢
 generalize w.heap.size+1=b1
 generalize w.heap.size=b0 at hB0 HS0 m0 m1 l0 ⊢
 have n0:b0≠w1.heap.size:=by omega
 have n2:b2≠w1.heap.size:=by omega
 have n3:b3≠w1.heap.size:=by omega
 have m0':=m0.symm
 have m1':=m1.symm
 have m2':=m2.symm
 have ka0:w1.cell? ⟨b0,0,none⟩=some (.int .i64 rl):=by rw[cell_of_row _ _ _ _ _ _ hB0];rfl
 have ka1:w1.cell? ⟨b0,1,none⟩=some (.int .i64 wt):=by rw[cell_of_row _ _ _ _ _ _ hB0];rfl
 have ka2:w1.cell? ⟨b0,2,none⟩=some (.int .i64 lt):=by rw[cell_of_row _ _ _ _ _ _ hB0];rfl
 have ka3:w1.cell? ⟨b0,3,none⟩=some (.int .i64 n):=by rw[cell_of_row _ _ _ _ _ _ hB0];rfl
 have ka4:w1.cell? ⟨b0,4,none⟩=some (.int .i64 x0):=by rw[cell_of_row _ _ _ _ _ _ hB0];rfl
 have ka5:w1.cell? ⟨b0,5,none⟩=some (.int .i64 x1):=by rw[cell_of_row _ _ _ _ _ _ hB0];rfl
 have ka6:w1.cell? ⟨b0,6,none⟩=some (.int .i64 x2):=by rw[cell_of_row _ _ _ _ _ _ hB0];rfl
 have ka7:w1.cell? ⟨b0,7,none⟩=some (.int .i64 x3):=by rw[cell_of_row _ _ _ _ _ _ hB0];rfl
 have ka8:w1.cell? ⟨b0,8,none⟩=some (.int .i64 x4):=by rw[cell_of_row _ _ _ _ _ _ hB0];rfl
 have ka9:w1.cell? ⟨b0,9,none⟩=some (.int .i64 x5):=by rw[cell_of_row _ _ _ _ _ _ hB0];rfl
 have ka10:w1.cell? ⟨b0,10,none⟩=some (.int .i64 x6):=by rw[cell_of_row _ _ _ _ _ _ hB0];rfl
 have ka11:w1.cell? ⟨b0,11,none⟩=some (.int .i64 x7):=by rw[cell_of_row _ _ _ _ _ _ hB0];rfl
 have ka12:w1.cell? ⟨b0,12,none⟩=some (.int .i64 x8):=by rw[cell_of_row _ _ _ _ _ _ hB0];rfl
 have ka13:w1.cell? ⟨b0,13,none⟩=some (.int .i64 x9):=by rw[cell_of_row _ _ _ _ _ _ hB0];rfl
 have ka14:w1.cell? ⟨b0,14,none⟩=some (.int .i64 x10):=by rw[cell_of_row _ _ _ _ _ _ hB0];rfl
 have ka15:w1.cell? ⟨b0,15,none⟩=some (.int .i64 x11):=by rw[cell_of_row _ _ _ _ _ _ hB0];rfl
 have ka16:w1.cell? ⟨b0,16,none⟩=some (.bool a0):=by rw[cell_of_row _ _ _ _ _ _ hB0];rfl
 have ka17:w1.cell? ⟨b0,17,none⟩=some (.bool a1):=by rw[cell_of_row _ _ _ _ _ _ hB0];rfl
 have ka18:w1.cell? ⟨b0,18,none⟩=some (.bool a2):=by rw[cell_of_row _ _ _ _ _ _ hB0];rfl
 have ka19:w1.cell? ⟨b0,19,none⟩=some (.bool a3):=by rw[cell_of_row _ _ _ _ _ _ hB0];rfl
 have ka20:w1.cell? ⟨b0,20,none⟩=some (.int .i64 a4):=by rw[cell_of_row _ _ _ _ _ _ hB0];rfl
 have ka21:w1.cell? ⟨b0,21,none⟩=some (.int .i64 a5):=by rw[cell_of_row _ _ _ _ _ _ hB0];rfl
 have ka22:w1.cell? ⟨b0,22,none⟩=some (.int .i64 a6):=by rw[cell_of_row _ _ _ _ _ _ hB0];rfl
 have ka23:w1.cell? ⟨b0,23,none⟩=some (.int .i64 a7):=by rw[cell_of_row _ _ _ _ _ _ hB0];rfl
 have kf0:w1.cell? ⟨b2,0,none⟩=some (.int .i64 y0):=by rw[cell_of_row _ _ _ _ _ _ hB2];rfl
 have kf1:w1.cell? ⟨b2,1,none⟩=some (.int .i64 y1):=by rw[cell_of_row _ _ _ _ _ _ hB2];rfl
 have kf2:w1.cell? ⟨b2,2,none⟩=some (.int .i64 y2):=by rw[cell_of_row _ _ _ _ _ _ hB2];rfl
 have kf3:w1.cell? ⟨b2,3,none⟩=some (.int .i64 y3):=by rw[cell_of_row _ _ _ _ _ _ hB2];rfl
 have kz0:w1.cell? ⟨b3,0,none⟩=some (.int .i64 0):=by rw[cell_of_row _ _ _ _ _ _ hB3];rfl
 have kz1:w1.cell? ⟨b3,1,none⟩=some (.int .i64 0):=by rw[cell_of_row _ _ _ _ _ _ hB3];rfl
 have kz2:w1.cell? ⟨b3,2,none⟩=some (.int .i64 0):=by rw[cell_of_row _ _ _ _ _ _ hB3];rfl
 have kz3:w1.cell? ⟨b3,3,none⟩=some (.int .i64 0):=by rw[cell_of_row _ _ _ _ _ _ hB3];rfl
 have kz4:w1.cell? ⟨b3,4,none⟩=some (.int .i64 0):=by rw[cell_of_row _ _ _ _ _ _ hB3];rfl
 have kz5:w1.cell? ⟨b3,5,none⟩=some (.int .i64 0):=by rw[cell_of_row _ _ _ _ _ _ hB3];rfl
 have kz6:w1.cell? ⟨b3,6,none⟩=some (.int .i64 0):=by rw[cell_of_row _ _ _ _ _ _ hB3];rfl
 have kz7:w1.cell? ⟨b3,7,none⟩=some (.int .i64 0):=by rw[cell_of_row _ _ _ _ _ _ hB3];rfl
 have kz8:w1.cell? ⟨b3,8,none⟩=some (.int .i64 0):=by rw[cell_of_row _ _ _ _ _ _ hB3];rfl
 have kz9:w1.cell? ⟨b3,9,none⟩=some (.int .i64 0):=by rw[cell_of_row _ _ _ _ _ _ hB3];rfl
 have kz10:w1.cell? ⟨b3,10,none⟩=some (.int .i64 0):=by rw[cell_of_row _ _ _ _ _ _ hB3];rfl
 have kz11:w1.cell? ⟨b3,11,none⟩=some (.int .i64 0):=by rw[cell_of_row _ _ _ _ _ _ hB3];rfl
 have kz12:w1.cell? ⟨b3,12,none⟩=some (.int .i64 0):=by rw[cell_of_row _ _ _ _ _ _ hB3];rfl
 have kz13:w1.cell? ⟨b3,13,none⟩=some (.int .i64 0):=by rw[cell_of_row _ _ _ _ _ _ hB3];rfl
 have kz14:w1.cell? ⟨b3,14,none⟩=some (.int .i64 0):=by rw[cell_of_row _ _ _ _ _ _ hB3];rfl
 have kz15:w1.cell? ⟨b3,15,none⟩=some (.int .i64 0):=by rw[cell_of_row _ _ _ _ _ _ hB3];rfl
 have kz16:w1.cell? ⟨b3,16,none⟩=some (.bool false):=by rw[cell_of_row _ _ _ _ _ _ hB3];rfl
 have kz17:w1.cell? ⟨b3,17,none⟩=some (.bool false):=by rw[cell_of_row _ _ _ _ _ _ hB3];rfl
 have kz18:w1.cell? ⟨b3,18,none⟩=some (.bool false):=by rw[cell_of_row _ _ _ _ _ _ hB3];rfl
 have kz19:w1.cell? ⟨b3,19,none⟩=some (.bool false):=by rw[cell_of_row _ _ _ _ _ _ hB3];rfl
 have kz20:w1.cell? ⟨b3,20,none⟩=some (.int .i64 0):=by rw[cell_of_row _ _ _ _ _ _ hB3];rfl
 have kz21:w1.cell? ⟨b3,21,none⟩=some (.int .i64 0):=by rw[cell_of_row _ _ _ _ _ _ hB3];rfl
 have kz22:w1.cell? ⟨b3,22,none⟩=some (.int .i64 0):=by rw[cell_of_row _ _ _ _ _ _ hB3];rfl
 have kz23:w1.cell? ⟨b3,23,none⟩=some (.int .i64 0):=by rw[cell_of_row _ _ _ _ _ _ hB3];rfl
 have za0:w1.frozen? ⟨b0,0,none⟩=false:=ai hB0 _
 have za1:w1.frozen? ⟨b0,1,none⟩=false:=ai hB0 _
 have za2:w1.frozen? ⟨b0,2,none⟩=false:=ai hB0 _
 have za3:w1.frozen? ⟨b0,3,none⟩=false:=ai hB0 _
 have za4:w1.frozen? ⟨b0,4,none⟩=false:=ai hB0 _
 have za5:w1.frozen? ⟨b0,5,none⟩=false:=ai hB0 _
 have za6:w1.frozen? ⟨b0,6,none⟩=false:=ai hB0 _
 have za7:w1.frozen? ⟨b0,7,none⟩=false:=ai hB0 _
 have za8:w1.frozen? ⟨b0,8,none⟩=false:=ai hB0 _
 have za9:w1.frozen? ⟨b0,9,none⟩=false:=ai hB0 _
 have za10:w1.frozen? ⟨b0,10,none⟩=false:=ai hB0 _
 have za11:w1.frozen? ⟨b0,11,none⟩=false:=ai hB0 _
 have za12:w1.frozen? ⟨b0,12,none⟩=false:=ai hB0 _
 have za13:w1.frozen? ⟨b0,13,none⟩=false:=ai hB0 _
 have za14:w1.frozen? ⟨b0,14,none⟩=false:=ai hB0 _
 have za15:w1.frozen? ⟨b0,15,none⟩=false:=ai hB0 _
 have za16:w1.frozen? ⟨b0,16,none⟩=false:=ai hB0 _
 have za17:w1.frozen? ⟨b0,17,none⟩=false:=ai hB0 _
 have za18:w1.frozen? ⟨b0,18,none⟩=false:=ai hB0 _
 have za19:w1.frozen? ⟨b0,19,none⟩=false:=ai hB0 _
 have za20:w1.frozen? ⟨b0,20,none⟩=false:=ai hB0 _
 have za21:w1.frozen? ⟨b0,21,none⟩=false:=ai hB0 _
 have za22:w1.frozen? ⟨b0,22,none⟩=false:=ai hB0 _
 have za23:w1.frozen? ⟨b0,23,none⟩=false:=ai hB0 _
 have zz0:w1.frozen? ⟨b3,0,none⟩=false:=ai hB3 _
 have zz1:w1.frozen? ⟨b3,1,none⟩=false:=ai hB3 _
 have zz2:w1.frozen? ⟨b3,2,none⟩=false:=ai hB3 _
 have zz3:w1.frozen? ⟨b3,3,none⟩=false:=ai hB3 _
 have zz4:w1.frozen? ⟨b3,4,none⟩=false:=ai hB3 _
 have zz5:w1.frozen? ⟨b3,5,none⟩=false:=ai hB3 _
 have zz6:w1.frozen? ⟨b3,6,none⟩=false:=ai hB3 _
 have zz7:w1.frozen? ⟨b3,7,none⟩=false:=ai hB3 _
 have zz8:w1.frozen? ⟨b3,8,none⟩=false:=ai hB3 _
 have zz9:w1.frozen? ⟨b3,9,none⟩=false:=ai hB3 _
 have zz10:w1.frozen? ⟨b3,10,none⟩=false:=ai hB3 _
 have zz11:w1.frozen? ⟨b3,11,none⟩=false:=ai hB3 _
 have zz12:w1.frozen? ⟨b3,12,none⟩=false:=ai hB3 _
 have zz13:w1.frozen? ⟨b3,13,none⟩=false:=ai hB3 _
 have zz14:w1.frozen? ⟨b3,14,none⟩=false:=ai hB3 _
 have zz15:w1.frozen? ⟨b3,15,none⟩=false:=ai hB3 _
 have zz16:w1.frozen? ⟨b3,16,none⟩=false:=ai hB3 _
 have zz17:w1.frozen? ⟨b3,17,none⟩=false:=ai hB3 _
 have zz18:w1.frozen? ⟨b3,18,none⟩=false:=ai hB3 _
 have zz19:w1.frozen? ⟨b3,19,none⟩=false:=ai hB3 _
 have zz20:w1.frozen? ⟨b3,20,none⟩=false:=ai hB3 _
 have zz21:w1.frozen? ⟨b3,21,none⟩=false:=ai hB3 _
 have zz22:w1.frozen? ⟨b3,22,none⟩=false:=ai hB3 _
 have zz23:w1.frozen? ⟨b3,23,none⟩=false:=ai hB3 _
 obtain⟨L,hL⟩:∃ L:List Value,L=[.int .i64 rl,.int .i64 wt,.int .i64 lt,.int .i64 n,.int .i64 x0,.int .i64 x1,.int .i64 x2,.int .i64 x3,.int .i64 x4,.int .i64 x5,.int .i64 x6,.int .i64 x7,.int .i64 x8,.int .i64 x9,.int .i64 x10,.int .i64 x11,.bool a0,.bool a1,.bool a2,.bool a3,.int .i64 a4,.int .i64 a5,.int .i64 a6,.int .i64 a7]:=⟨_,rfl⟩
 have hlen:L.length=24:=by rw[hL];rfl
 have HLL:Hid (L.toArray=#[.int .i64 rl,.int .i64 wt,.int .i64 lt,.int .i64 n,.int .i64 x0,.int .i64 x1,.int .i64 x2,.int .i64 x3,.int .i64 x4,.int .i64 x5,.int .i64 x6,.int .i64 x7,.int .i64 x8,.int .i64 x9,.int .i64 x10,.int .i64 x11,.bool a0,.bool a1,.bool a2,.bool a3,.int .i64 a4,.int .i64 a5,.int .i64 a6,.int .i64 a7]):=af (by rw[hL])
 have HRG:Hid (∀ o,(w1.alloc o).rangeAt b0 0 L):=af (fun o=>aF ((Below.heap_alloc _ _ _ l0).trans hB0) (by rw[hL]))
 have HTH:Hid (∀ o,(w1.alloc o).there b3 0 L.toArray.size):=af (fun o=>ly (show _=L.toArray.size from by rw[show L.toArray.size=24 from hlen];rfl) ((Below.heap_alloc _ _ _ l3).trans hB3))
 have HIN:Hid ((Tryz.prog.info? 176).map (·.size)=some L.length):=af (by rw[hlen];kernel_rfl)
 have HIS:Hid ((Tryz.prog.info? 176).map (·.size)=some L.toArray.size):=af (by rw[List.size_toArray,hlen];kernel_rfl)
 have HONE:Hid (L.toArray.all (·.oneCell')=true):=af (all_oneCell_toArray (by rw[hL];simp[Value.oneCell']))
 have HBL:Hid (∀ o,((w1.alloc o).setCells b3 0 L).heap[b3]?=some (.cells L.toArray 176 (0,0))):=af (fun o=>by
  have:=gH L 0 (w1.alloc o) [] [] [.int .i64 0,.int .i64 0,.int .i64 0,.int .i64 0,.int .i64 0,.int .i64 0,.int .i64 0,.int .i64 0,.int .i64 0,.int .i64 0,.int .i64 0,.int .i64 0,.int .i64 0,.int .i64 0,.int .i64 0,.int .i64 0,.bool false,.bool false,.bool false,.bool false,.int .i64 0,.int .i64 0,.int .i64 0,.int .i64 0] rfl (by rw[hlen];rfl) ((Below.heap_alloc _ _ _ l3).trans hB3)
  simpa using this)
 clear hL hB0 hB2 hB3 l0 l2 l3
 go_wp2_with (first
  |(refine wpList_load_mid rfl 176 (.tmp 3) rfl b0 0 rfl L _ (HRG.out _) Tryz.underlying176 rfl HIN.out ?_)
  |(refine wpList_store_mid rfl 176 (.tmp 6) (.tmp 30) rfl b3 0 L.toArray rfl rfl (HTH.out _) HIS.out HONE.out ?_))
 refine bodyPost_ret (aO Tryz.results133 rfl (HBL.out _) Tryz.underlying176 rfl HIS.out rfl) rfl ⟨by rw[HLL.out];rfl,?_⟩
 exact HSS.out _ _ (ab HG2.out _)
end Go.Proofs.YthlhbjnkohinmaaGreat
