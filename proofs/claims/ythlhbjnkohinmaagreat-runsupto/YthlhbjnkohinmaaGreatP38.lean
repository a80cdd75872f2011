import Derived.Test.YthlhbjnkohinmaaGreatP37
import Derived.Laws.StructEq
import Derived.Laws.MakeOwn
namespace Go.Proofs.YthlhbjnkohinmaaGreat
set_option maxRecDepth 100000
set_option maxHeartbeats 8000000
open Go.RowKit
theorem zS {α:Type}(lt:α→α→Bool)(x:α)(l:List α):(fN lt x l).head?=match l.head? with|none=>some x|some y=>if lt x y then some x else some y:=by
 cases l with
 |nil=>rfl
 |cons y l=>
  simp only[fN,List.head?_cons]
  split <;> rfl
def Gd (wt:Nat→Int)(b:Option In)(x:In):Option In:=match b with|none=>some x|some y=>if i9 wt x y then some x else some y
def gK (wt:Nat→Int)(l:List In):Option In:=(bL (i9 wt) l).head?
theorem zF (wt:Nat→Int)(l:List In)(x:In):gK wt (l++[x])=Gd wt (gK wt l) x:=by
 unfold gK Gd
 rw[pX,zS]
 cases (bL (i9 wt) l).head? <;> rfl
def kF (wt:Nat→Int)(o:Option In):List Value:=match o with
 |some i=>aG (wt i.rule) i
 |none=>[.int .i64 0,.int .i64 0,.int .i64 0,.int .i64 0,.int .i64 0,.int .i64 0,.int .i64 0,.int .i64 0,.int .i64 0,.int .i64 0,.int .i64 0,.int .i64 0,.int .i64 0,.int .i64 0,.int .i64 0,.int .i64 0,.bool false,.bool false,.bool false,.bool false,.int .i64 0,.int .i64 0,.int .i64 0,.int .i64 0]
theorem kN (wt:Nat→Int)(o:Option In):(kF wt o).length=24:=by cases o <;> rfl
theorem qa (wt:Nat→Int)(o:Option In):∀ v∈kF wt o,v.oneCell'=true:=by
 cases o with
 |some i=>exact cm _ _
 |none=>
  intro v hv
  simp only[kF,List.mem_cons,List.not_mem_nil,or_false] at hv
  rcases hv with h|h|h|h|h|h|h|h|h|h|h|h|h|h|h|h|h|h|h|h|h|h|h|h <;> rw[h] <;> rfl
theorem iW {b:Nat}:∀ (vs:List Value) (o:Nat) (w w':World),w.grownBy w' (some b)→w.grownBy (w'.setCells b o vs) (some b)
 |[],_,_,_,h=>h
 |v::vs,o,w,_,h=>iW vs (o+1) w _ (aj h (.inl rfl) v)
theorem oj {w:World}{b:Nat}{Z L:List Value}{t:TypeId}(h:w.heap[b]?=some (.cells Z.toArray t (0,0)))(hl:Z.length=L.length):(w.setCells b 0 L).heap[b]?=some (.cells L.toArray t (0,0)):=by
 have:=gH L 0 w [] [] Z rfl hl (by simpa using h)
 simpa using this
theorem fF {P:Program}{ops:Array Oper}{rest:List Oper}{op:Oper}{a:Act}{w:World}{Q:Exit→Act→World→Prop}(hw:Region.wanted op (yielded ops a.tmps)=true)(ty:TypeId)(x:Operand)(ho:op.op=.load ty x)
  (b o:Nat) (hx:a.eval x=.pointer (some ⟨b,o,none⟩)) (cs:List Value) (d:TypeDesc) (hc:w.rangeAt b o cs)
  (hu:P.underlying ty=some d) (hd:d.isRow=true) (hi:(P.info? ty).map (·.size)=some cs.length)
  (h:wpList P ops Q rest (a.put op.dst (.agg cs.toArray)) w):wpList P ops Q (op::rest) a w:=
 wpList_step fun _ hK=>by
  rw[if_pos hw]
  exact wp_load_mid ty x ho b o hx cs d hc hu hd hi (hK _ _ h)
theorem xg (s:ByteArray)(F:List aw)(R:List ay)(ra fa:Option Addr)(rc fc B B2 x o:Nat)(fd:In→Bool)(w:World)(hR:∀ r∈R,l7 s r)(hR9:R.length≤9)
  (hrow:bS w B s (.slice ra R.length rc) R) (hFl:F.length≤60) (hfr:w.ownsRow B2 114 4 (.slice fa F.length fc) F.length (bG F))
  (HHAS:Hid (∀ (k:Nat) (hk:k<R.length) (i:In) (W:World),i∈dC 0 s F k R[k].2.1→w.grownBy W none→Calls Tryz.prog 89 #[.pointer (some ⟨x,o,none⟩),.agg (aG (ep s R k) i).toArray] W fun e w'=>e=.returned (.bool (fd i))∧W.grownBy w' none)) :
  Calls Tryz.prog 117 #[.slice ra R.length rc,.slice fa F.length fc,.pointer (some ⟨x,o,none⟩)] w fun e w'=>e=.returned (.tuple #[.agg (kF (ep s R) (gK (ep s R) (jx s F R fd R.length))).toArray,.bool (gK (ep s R) (jx s F R fd R.length)).isSome])∧w.grownBy w' none:=by
 obtain⟨xs0,hrow1,hpar⟩:=hrow
 have HROW:=af hrow1
 have HPAR:=af hpar
 have HFR:=af hfr
 have HR:=af hR
 have hb0:((w.alloc (.cells #[.int .i64 0,.int .i64 0,.int .i64 0,.int .i64 0,.int .i64 0,.int .i64 0,.int .i64 0,.int .i64 0,.int .i64 0,.int .i64 0,.int .i64 0,.int .i64 0,.int .i64 0,.int .i64 0,.int .i64 0,.int .i64 0,.bool false,.bool false,.bool false,.bool false,.int .i64 0,.int .i64 0,.int .i64 0,.int .i64 0] 176)).alloc (.cells #[.int .i64 0,.int .i64 0,.int .i64 0,.int .i64 0,.int .i64 0,.int .i64 0,.int .i64 0,.int .i64 0,.int .i64 0,.int .i64 0,.int .i64 0,.int .i64 0,.int .i64 0,.int .i64 0,.int .i64 0,.int .i64 0,.bool false,.bool false,.bool false,.bool false,.int .i64 0,.int .i64 0,.int .i64 0,.int .i64 0] 176)).heap[w.heap.size]?=some (.cells #[.int .i64 0,.int .i64 0,.int .i64 0,.int .i64 0,.int .i64 0,.int .i64 0,.int .i64 0,.int .i64 0,.int .i64 0,.int .i64 0,.int .i64 0,.int .i64 0,.int .i64 0,.int .i64 0,.int .i64 0,.int .i64 0,.bool false,.bool false,.bool false,.bool false,.int .i64 0,.int .i64 0,.int .i64 0,.int .i64 0] 176 (0,0)):=(Below.heap_alloc _ _ _ (by simp)).trans (heap_alloc_new w _)
 have hb1:((w.alloc (.cells #[.int .i64 0,.int .i64 0,.int .i64 0,.int .i64 0,.int .i64 0,.int .i64 0,.int .i64 0,.int .i64 0,.int .i64 0,.int .i64 0,.int .i64 0,.int .i64 0,.int .i64 0,.int .i64 0,.int .i64 0,.int .i64 0,.bool false,.bool false,.bool false,.bool false,.int .i64 0,.int .i64 0,.int .i64 0,.int .i64 0] 176)).alloc (.cells #[.int .i64 0,.int .i64 0,.int .i64 0,.int .i64 0,.int .i64 0,.int .i64 0,.int .i64 0,.int .i64 0,.int .i64 0,.int .i64 0,.int .i64 0,.int .i64 0,.int .i64 0,.int .i64 0,.int .i64 0,.int .i64 0,.bool false,.bool false,.bool false,.bool false,.int .i64 0,.int .i64 0,.int .i64 0,.int .i64 0] 176)).heap[w.heap.size+1]?=some (.cells (kF (ep s R) (gK (ep s R) (jx s F R fd 0))).toArray 176 (0,0)):=bm (by simp)
 have HB0:=af hb0
 have HB1:=af hb1
 have HGW:Hid (w.grownBy ((w.alloc (.cells #[.int .i64 0,.int .i64 0,.int .i64 0,.int .i64 0,.int .i64 0,.int .i64 0,.int .i64 0,.int .i64 0,.int .i64 0,.int .i64 0,.int .i64 0,.int .i64 0,.int .i64 0,.int .i64 0,.int .i64 0,.int .i64 0,.bool false,.bool false,.bool false,.bool false,.int .i64 0,.int .i64 0,.int .i64 0,.int .i64 0] 176)).alloc (.cells #[.int .i64 0,.int .i64 0,.int .i64 0,.int .i64 0,.int .i64 0,.int .i64 0,.int .i64 0,.int .i64 0,.int .i64 0,.int .i64 0,.int .i64 0,.int .i64 0,.int .i64 0,.int .i64 0,.int .i64 0,.int .i64 0,.bool false,.bool false,.bool false,.bool false,.int .i64 0,.int .i64 0,.int .i64 0,.int .i64 0] 176)) none):=af (ab (ab (ag _ _) _) _)
 have HIT:Hid (∀ o:Option In,(Tryz.prog.info? 176).map (·.size)=some (kF (ep s R) o).length):=af (fun o=>by rw[kN];exact bE)
 clear hrow1 hpar hfr hR hb0 hb1
 go_enter Tryz.func117,Tryz.ntmps117
 go_wp2_with fail
 generalize ((w.alloc (.cells #[.int .i64 0,.int .i64 0,.int .i64 0,.int .i64 0,.int .i64 0,.int .i64 0,.int .i64 0,.int .i64 0,.int .i64 0,.int .i64 0,.int .i64 0,.int .i64 0,.int .i64 0,.int .i64 0,.int .i64 0,.int .i64 0,.bool false,.bool false,.bool false,.bool false,.int .i64 0,.int .i64 0,.int .i64 0,.int .i64 0] 176)).alloc (.cells #[.int .i64 0,.int .i64 0,.int .i64 0,.int .i64 0,.int .i64 0,.int .i64 0,.int .i64 0,.int .i64 0,.int .i64 0,.int .i64 0,.int .i64 0,.int .i64 0,.int .i64 0,.int .i64 0,.int .i64 0,.int .i64 0,.bool false,.bool false,.bool false,.bool false,.int .i64 0,.int .i64 0,.int .i64 0,.int .i64 0] 176))=WA at HB0 HB1 HGW ⊢
 go_loopw [9,18] (fun t i wr=>∃ k:Nat,k≤R.length∧i=.int .i64 k∧t=.bool (gK (ep s R) (jx s F R fd k)).isSome∧wr.heap[w.heap.size]?=some (.cells #[.int .i64 0,.int .i64 0,.int .i64 0,.int .i64 0,.int .i64 0,.int .i64 0,.int .i64 0,.int .i64 0,.int .i64 0,.int .i64 0,.int .i64 0,.int .i64 0,.int .i64 0,.int .i64 0,.int .i64 0,.int .i64 0,.bool false,.bool false,.bool false,.bool false,.int .i64 0,.int .i64 0,.int .i64 0,.int .i64 0] 176 (0,0))∧wr.heap[w.heap.size+1]?=some (.cells (kF (ep s R) (gK (ep s R) (jx s F R fd k))).toArray 176 (0,0))∧w.grownBy wr none) (fun _ i _=>R.length - (intOf i).toNat)
 case atStart=>exact⟨0,by omega,rfl,rfl,HB0.out,HB1.out,HGW.out⟩
 case round=>
  obtain⟨k,hk,rfl,rfl,hB0,hB1,hg⟩:=hrel
  have HG:=af hg
  have l0:=lt_of_block hB0
  have l1:=lt_of_block hB1
  by_cases hlt:k<R.length
  ·have hrw:=HR.out _ (List.getElem_mem hlt)
   obtain⟨a1,m1,c1,a2,m2,c2,x0,x1,x2,o1,o2⟩:=jO R xs0 HPAR.out k hlt
   have em1:=ar o1
   subst em1
   obtain⟨gr,hra,_,_,hgr,hrcell⟩:=aE HROW.out (by omega)
   subst hra
   obtain⟨wk,hwk⟩:∃ wk:Int,wk=bt s R[k].1 - 48:=⟨_,rfl⟩
   have hwg:ep s R k=wk:=by rw[hwk];simp[ep,List.getD,List.getElem?_eq_getElem hlt]
   have d0:=am hg (hrcell _ _ x0)
   have d1:=am hg (hrcell _ _ x1)
   have d2:=am hg (hrcell _ _ x2)
   rw[←hwk] at d0
   obtain⟨m1,hm1⟩:∃ m1,m1=R[k].2.1.length:=⟨_,rfl⟩
   rw[←hm1] at d1
   obtain⟨IR,hIR⟩:∃ IR,IR=dC 0 s F k R[k].2.1:=⟨_,rfl⟩
   have HCO:Hid (∀ W,w.grownBy W none→Calls Tryz.prog 88 #[.int .i64 k,.agg #[.int .i64 wk,.slice a1 m1 c1,.slice a2 m2 c2],.slice fa F.length fc] W fun e w'=>∃ v,e=.returned v∧w'.ownsRow W.heap.size 176 24 v IR.length (dD wk IR)∧W.grownBy w' none):=af (fun W hW=>by
    rw[hIR,hm1]
    exact lQ s F k R[k].2.1 wk a1 a2 fa c1 m2 c2 fc B B2 W hrw.conds hrw.pats hrw.len (aq o1 hW (fun g hg=>by cases hg)) hFl (aq HFR.out hW (fun g hg=>by cases hg)))
   have HHK:=af (HHAS.out k hlt)
   rw[←hIR,hwg] at HHK
   have HIRL:IR.length≤216000:=by rw[hIR];exact nw hFl k hrw
   have HIRR:Hid (∀ i∈IR,i.rule=k):=af (by rw[hIR];exact fun i hi=>(iL hFl k hrw i hi).2)
   have HJS:=af (v7 s F R fd k IR)
   have HJA:Hid (kh s F R fd k IR IR.length=jx s F R fd (k+1)):=af (by rw[hIR];exact yP s F R fd k hlt)
   have HJ0:=af (uZ s F R fd k IR)
   have hsz:=hg.size
   have hne:gr≠wr.heap.size:=by omega
   have hgl:gr<wr.heap.size:=by omega
   have HWGT:=af hwg
   have HBB0:=af hB0
   have HBB1:=af hB1
   rw[←HJ0.out] at HBB1 ⊢
   obtain⟨f0,hf0⟩:∃ f0,f0=(gK (ep s R) (kh s F R fd k IR 0)).isSome:=⟨_,rfl⟩
   rw[←hf0]
   have HF0:=af hf0
   have HK1:Hid (k+1≤R.length):=af hlt
   clear hf0 hIR hm1 hwk hwg x0 x1 x2 o1 o2 hrcell hrw hg hB0 hB1
   go_wp2_with fail
   go_at_call 88
   refine (HCO.out _ (ae HG.out (ab (ag _ _) _))).mono ?_
   rintro e w1 ⟨ov,rfl,hov,hg1⟩
   have HW1:Hid (wr.grownBy w1 none):=af (ae (ab (ag _ _) _) hg1)
   obtain⟨oa,om,oc,rfl⟩:=an hov
   have eom:=ar hov
   subst eom
   have HOV:=af (bP hov (Nat.zero_le _))
   have HOBS:Hid (∀ g,(Value.slice oa IR.length oc).ownBlock=some g→wr.heap.size<g):=af (fun g hgg=>by
    have:=hov.lt g hgg
    simp at this
    omega)
   have HA0:Hid (w1.heap[w.heap.size]?=some (.cells #[.int .i64 0,.int .i64 0,.int .i64 0,.int .i64 0,.int .i64 0,.int .i64 0,.int .i64 0,.int .i64 0,.int .i64 0,.int .i64 0,.int .i64 0,.int .i64 0,.int .i64 0,.int .i64 0,.int .i64 0,.int .i64 0,.bool false,.bool false,.bool false,.bool false,.int .i64 0,.int .i64 0,.int .i64 0,.int .i64 0] 176 (0,0))):=af ((HW1.out.block _ l0 (by simp)).trans HBB0.out)
   have HA1:Hid (w1.heap[w.heap.size+1]?=some (.cells (kF (ep s R) (gK (ep s R) (kh s F R fd k IR 0))).toArray 176 (0,0))):=af ((HW1.out.block _ l1 (by simp)).trans HBB1.out)
   clear hov hg1 HCO
   go_wp2_with fail
   go_loopw [9,29] (fun t i wr2=>∃ j:Nat,j≤IR.length∧i=.int .i64 j∧t=.bool (gK (ep s R) (kh s F R fd k IR j)).isSome∧wr2.heap[w.heap.size]?=some (.cells #[.int .i64 0,.int .i64 0,.int .i64 0,.int .i64 0,.int .i64 0,.int .i64 0,.int .i64 0,.int .i64 0,.int .i64 0,.int .i64 0,.int .i64 0,.int .i64 0,.int .i64 0,.int .i64 0,.int .i64 0,.int .i64 0,.bool false,.bool false,.bool false,.bool false,.int .i64 0,.int .i64 0,.int .i64 0,.int .i64 0] 176 (0,0))∧wr2.heap[w.heap.size+1]?=some (.cells (kF (ep s R) (gK (ep s R) (kh s F R fd k IR j))).toArray 176 (0,0))∧w.grownBy wr2 none∧wr2.ownsRow 0 176 24 (.slice oa IR.length oc) IR.length (dD wk IR)) (fun _ i _=>IR.length - (intOf i).toNat)
   case atStart=>exact⟨0,by omega,rfl,by rw[HF0.out],HA0.out,HA1.out,ae HG.out HW1.out,HOV.out⟩
   case round=>
    rename World=>wr2
    obtain⟨j,hj,rfl,rfl,hC0,hC1,hg2,hor⟩:=hrel
    have HG2:=af hg2
    have HOR:=af hor
    have HC0:=af hC0
    have HC1:=af hC1
    have r0:=lt_of_block hC0
    have r1:=lt_of_block hC1
    have hsz2:=hg2.size
    by_cases hltj:j<IR.length
    ·obtain⟨go,hoa,_,_,hgol,hocell⟩:=aE hor (by omega)
     subst hoa
     have hgob:w.heap.size+1<go:=by
      have:=HOBS.out go rfl
      omega
     obtain⟨L,hL⟩:∃ L,L=aG wk IR[j]:=⟨_,rfl⟩
     have HRG:Hid (wr2.rangeAt go (j*24) L):=af (by rw[hL];exact eX (eD wk) hocell hltj)
     have hLl:L.length=24:=by rw[hL];rfl
     have HIL:Hid ((Tryz.prog.info? 176).map (·.size)=some L.length):=af (by rw[hLl];exact bE)
     have HILs:Hid ((Tryz.prog.info? 176).map (·.size)=some L.toArray.size):=af (by rw[List.size_toArray,hLl];exact bE)
     have HONA:Hid (L.toArray.all (·.oneCell')=true):=af (all_oneCell_toArray (by rw[hL];exact cm _ _))
     have HBN:Hid ((wr2.alloc (.cells L.toArray 176)).heap[wr2.heap.size]?=some (.cells L.toArray 176 (0,0))):=af (heap_alloc_new wr2 _)
     have HGA:Hid (wr2.grownBy (wr2.alloc (.cells L.toArray 176)) none):=af (ab (ag _ _) _)
     have HCA:=af (fun W=>HHK.out IR[j] W (List.getElem_mem hltj))
     rw[←hL] at HCA
     have HSJ:=af (HJS.out j hltj)
     obtain⟨ok,hok⟩:∃ ok,ok=fd IR[j]:=⟨_,rfl⟩
     rw[←hok] at HCA HSJ
     have HFL:Hid (kF (ep s R) (some IR[j])=L):=af (by rw[hL];unfold kF;simp only[];rw[HIRR.out _ (List.getElem_mem hltj),HWGT.out])
     obtain⟨best,hbest⟩:∃ best,best=gK (ep s R) (kh s F R fd k IR j):=⟨_,rfl⟩
     have HNX:Hid (gK (ep s R) (kh s F R fd k IR (j+1))=if ok then best else Gd (ep s R) best IR[j]):=af (by
      rw[HSJ.out,hbest]
      cases ok with
      |true=>simp
      |false=>
       rw[if_neg (by simp),if_neg (by simp)]
       exact zF _ _ _)
     obtain⟨M,hM⟩:∃ M,M=kF (ep s R) best:=⟨_,rfl⟩
     have hMl:M.length=24:=by rw[hM];exact kN _ _
     have HIM:Hid ((Tryz.prog.info? 176).map (·.size)=some M.length):=af (by rw[hMl];exact bE)
     rw[←hbest,←hM] at HC1 hC1
     have HRM:Hid (∀ W,wr2.grownBy W none→W.rangeAt (w.heap.size+1) 0 M):=af (fun W hW=>aF ((hW.block _ r1 (by simp)).trans hC1) rfl)
     have HRL:Hid (∀ W,(wr2.alloc (.cells L.toArray 176)).grownBy W none→W.rangeAt wr2.heap.size 0 L):=af (fun W hW=>aF ((hW.block _ (lt_of_block HBN.out) (by simp)).trans HBN.out) rfl)
     have HTH:Hid (∀ W,wr2.grownBy W none→W.there (w.heap.size+1) 0 L.toArray.size):=af (fun W hW=>dG ((hW.block _ r1 (by simp)).trans hC1) (by simp[hLl,hMl]))
     have HNEW:Hid (∀ W,wr2.grownBy W none→(W.setCells (w.heap.size+1) 0 L.toArray.toList).heap[w.heap.size]?=some (.cells #[.int .i64 0,.int .i64 0,.int .i64 0,.int .i64 0,.int .i64 0,.int .i64 0,.int .i64 0,.int .i64 0,.int .i64 0,.int .i64 0,.int .i64 0,.int .i64 0,.int .i64 0,.int .i64 0,.int .i64 0,.int .i64 0,.bool false,.bool false,.bool false,.bool false,.int .i64 0,.int .i64 0,.int .i64 0,.int .i64 0] 176 (0,0))∧(W.setCells (w.heap.size+1) 0 L.toArray.toList).heap[w.heap.size+1]?=some (.cells L.toArray 176 (0,0))∧w.grownBy (W.setCells (w.heap.size+1) 0 L.toArray.toList) none∧(W.setCells (w.heap.size+1) 0 L.toArray.toList).ownsRow 0 176 24 (.slice (some ⟨go,0,none⟩) IR.length oc) IR.length (dD wk IR)):=af (fun W hW=>by
      refine⟨(fL _ _ _ (by omega)).trans ((hW.block _ r0 (by simp)).trans HC0.out),oj ((hW.block _ r1 (by simp)).trans hC1) (by rw[hMl,hLl]),?_,?_⟩
      ·exact aL (ae HG2.out hW) (iW _ 0 W W (ag _ _)) (fun g hg=>by cases hg;omega)
      ·refine oK (aq HOR.out hW (fun g hg=>by cases hg)) (iW _ 0 W W (ag _ _)) (fun g hg e=>?_)
       have e1:go=g:=Option.some.inj hg
       have e2:w.heap.size+1=g:=Option.some.inj e
       omega)
     have HOLD:Hid (∀ W,wr2.grownBy W none→W.heap[w.heap.size]?=some (.cells #[.int .i64 0,.int .i64 0,.int .i64 0,.int .i64 0,.int .i64 0,.int .i64 0,.int .i64 0,.int .i64 0,.int .i64 0,.int .i64 0,.int .i64 0,.int .i64 0,.int .i64 0,.int .i64 0,.int .i64 0,.int .i64 0,.bool false,.bool false,.bool false,.bool false,.int .i64 0,.int .i64 0,.int .i64 0,.int .i64 0] 176 (0,0))∧W.heap[w.heap.size+1]?=some (.cells M.toArray 176 (0,0))∧w.grownBy W none∧W.ownsRow 0 176 24 (.slice (some ⟨go,0,none⟩) IR.length oc) IR.length (dD wk IR)):=af (fun W hW=>⟨(hW.block _ r0 (by simp)).trans HC0.out,(hW.block _ r1 (by simp)).trans hC1,ae HG2.out hW,aq HOR.out hW (fun g hg=>by cases hg)⟩)
     have HAH:Hid (∀ y,best=some y→∀ W,Calls Tryz.prog 114 #[.agg L.toArray,.agg M.toArray] W fun e w'=>e=.returned (.bool (i9 (ep s R) IR[j] y))∧W.grownBy w' none):=af (fun y hy W=>by
      have:=qv (ep s R IR[j].rule) (ep s R y.rule) IR[j] y W
      rw[hM,hy,←HFL.out]
      exact this)
     have HM:=af hM
     have hneo:go≠wr2.heap.size:=by omega
     have w1n:w.heap.size+1≠wr2.heap.size:=by omega
     obtain⟨it,hit⟩:∃ it,it=IR[j]:=⟨_,rfl⟩
     rw[←hit] at HNX HAH HFL
     rw[←hbest]
     clear hit hM hL hok hbest HSJ hC0 hC1 hg2 hor hocell HHK HJS
     cases hbb:best with
     |none=>
      subst hbb
      simp only[Option.isSome_none]
      have HG3:Hid (wr2.grownBy (wr2.alloc (.cells L.toArray 176)) none):=af HGA.out
      go_wp2_with (first
       |(refine wpList_load_mid rfl 176 (.tmp 31) rfl go (j*24) rfl L _ HRG.out Tryz.underlying176 rfl HIL.out ?_)
       |(refine az rfl 176 (.tmp 14) (.tmp 32) rfl _ L rfl rfl hLl.symm HIL.out HONA.out ?_)
       |(refine fF rfl 176 (.tmp 14) rfl wr2.heap.size 0 rfl L _ (HRL.out _ (ag _ _)) Tryz.underlying176 rfl HIL.out ?_))
      go_at_call 89
      refine (HCA.out _ (ae HG2.out HGA.out)).mono ?_
      rintro e w2 ⟨rfl,hg3⟩
      have HG4:Hid (wr2.grownBy w2 none):=af (ae HGA.out hg3)
      have HR4:Hid (w2.rangeAt wr2.heap.size 0 L):=af (HRL.out _ hg3)
      clear hg3
      cases ok with
      |true=>
       have HX:=af (HOLD.out _ HG4.out)
       have HNZ:Hid (gK (ep s R) (kh s F R fd k IR (j+1))=none):=af (by rw[HNX.out];rfl)
       clear HNX HCA HNEW HTH
       go_wp2_with fail
       go_roundw
       case rel=>
        obtain⟨e1,e2,e3,e4⟩:=HX.out
        exact⟨j+1,by omega,by go_num,by rw[HNZ.out];rfl,e1,by rw[HNZ.out,←HM.out];exact e2,e3,e4⟩
       case measure=>simp[intOf];omega
      |false=>
       have HX:=af (HNEW.out _ HG4.out)
       have HNZ:Hid (gK (ep s R) (kh s F R fd k IR (j+1))=some it):=af (by rw[HNX.out];rfl)
       have HT4:=af (HTH.out _ HG4.out)
       clear HNX HCA HOLD HTH HNEW
       go_wp2_with (first
        |(refine wpList_load_mid rfl 176 (.tmp 14) rfl wr2.heap.size 0 rfl L _ HR4.out Tryz.underlying176 rfl HIL.out ?_)
        |(refine wpList_store_mid rfl 176 (.tmp 8) (.tmp 47) rfl (w.heap.size+1) 0 L.toArray rfl rfl HT4.out HILs.out HONA.out ?_))
       go_roundw
       case rel=>
        obtain⟨e1,e2,e3,e4⟩:=HX.out
        exact⟨j+1,by omega,by go_num,by rw[HNZ.out];rfl,e1,by rw[HNZ.out,HFL.out];exact e2,e3,e4⟩
       case measure=>simp[intOf];omega
     |some y=>
      subst hbb
      simp only[Option.isSome_some]
      have HAY:=af (HAH.out y rfl)
      obtain⟨la,hla⟩:∃ la,la=i9 (ep s R) it y:=⟨_,rfl⟩
      have HNY:Hid (Gd (ep s R) (some y) it=if la then some it else some y):=af (by rw[hla];rfl)
      rw[←hla] at HAY
      clear hla HAH
      go_wp2_with (first
       |(refine wpList_load_mid rfl 176 (.tmp 31) rfl go (j*24) rfl L _ HRG.out Tryz.underlying176 rfl HIL.out ?_)
       |(refine az rfl 176 (.tmp 14) (.tmp 32) rfl _ L rfl rfl hLl.symm HIL.out HONA.out ?_)
       |(refine fF rfl 176 (.tmp 14) rfl wr2.heap.size 0 rfl L _ (HRL.out _ (ag _ _)) Tryz.underlying176 rfl HIL.out ?_)
       |(refine fF rfl 176 (.tmp 8) rfl (w.heap.size+1) 0 rfl M _ (HRM.out _ HGA.out) Tryz.underlying176 rfl HIM.out ?_))
      go_at_call 114
      refine (HAY.out _).mono ?_
      rintro e wa ⟨rfl,hga⟩
      have HGa:=af (ae HGA.out hga)
      have HRa:=af (HRL.out _ hga)
      have HGaL:=af hga
      clear hga HAY
      cases la with
      |false=>
       have HNZ:Hid (gK (ep s R) (kh s F R fd k IR (j+1))=some y):=af (by
        rw[HNX.out,HNY.out]
        cases ok <;> simp)
       have HX:=af (HOLD.out _ HGa.out)
       clear HNX HNY HCA HNEW HTH
       go_wp2_with fail
       go_roundw
       case rel=>
        obtain⟨e1,e2,e3,e4⟩:=HX.out
        exact⟨j+1,by omega,by go_num,by rw[HNZ.out];rfl,e1,by rw[HNZ.out,←HM.out];exact e2,e3,e4⟩
       case measure=>simp[intOf];omega
      |true=>
       go_wp2_with (first
        |(refine fF rfl 176 (.tmp 14) rfl wr2.heap.size 0 rfl L _ HRa.out Tryz.underlying176 rfl HIL.out ?_))
       go_at_call 89
       refine (HCA.out _ (ae HG2.out HGa.out)).mono ?_
       rintro e w2 ⟨rfl,hg3⟩
       have HG4:Hid (wr2.grownBy w2 none):=af (ae HGa.out hg3)
       have HR4:Hid (w2.rangeAt wr2.heap.size 0 L):=af (HRL.out _ (ae HGaL.out hg3))
       clear hg3
       cases ok with
       |true=>
        have HX:=af (HOLD.out _ HG4.out)
        have HNZ:Hid (gK (ep s R) (kh s F R fd k IR (j+1))=some y):=af (by rw[HNX.out];rfl)
        clear HNX HCA HNEW HTH
        go_wp2_with fail
        go_roundw
        case rel=>
         obtain⟨e1,e2,e3,e4⟩:=HX.out
         exact⟨j+1,by omega,by go_num,by rw[HNZ.out];rfl,e1,by rw[HNZ.out,←HM.out];exact e2,e3,e4⟩
        case measure=>simp[intOf];omega
       |false=>
        have HX:=af (HNEW.out _ HG4.out)
        have HNZ:Hid (gK (ep s R) (kh s F R fd k IR (j+1))=some it):=af (by rw[HNX.out];rw[if_neg (by simp),HNY.out];rfl)
        have HT4:=af (HTH.out _ HG4.out)
        clear HNX HCA HOLD HTH HNEW
        go_wp2_with (first
         |(refine wpList_load_mid rfl 176 (.tmp 14) rfl wr2.heap.size 0 rfl L _ HR4.out Tryz.underlying176 rfl HIL.out ?_)
         |(refine wpList_store_mid rfl 176 (.tmp 8) (.tmp 47) rfl (w.heap.size+1) 0 L.toArray rfl rfl HT4.out HILs.out HONA.out ?_))
        go_roundw
        case rel=>
         obtain⟨e1,e2,e3,e4⟩:=HX.out
         exact⟨j+1,by omega,by go_num,by rw[HNZ.out];rfl,e1,by rw[HNZ.out,HFL.out];exact e2,e3,e4⟩
        case measure=>simp[intOf];omega
    ·have ej:j=IR.length:=by omega
     subst ej
     rw[HJA.out] at HC1 ⊢
     obtain⟨f1,hf1⟩:∃ f1,f1=(gK (ep s R) (jx s F R fd (k+1))).isSome:=⟨_,rfl⟩
     rw[←hf1]
     have HF1:=af hf1
     clear hf1 hC0 hC1 hg2 hor HHK HJS
     go_wp2_with fail
     go_roundw
     case rel=>exact⟨k+1,HK1.out,by go_num,by rw[HF1.out],HC0.out,HC1.out,HG2.out⟩
     case measure=>
      have:=HK1.out
      simp[intOf]
      omega
  ·have hkl:k=R.length:=by omega
   subst hkl
   obtain⟨b,hbb⟩:∃ b,b=gK (ep s R) (jx s F R fd R.length):=⟨_,rfl⟩
   rw[←hbb] at hB1 ⊢
   obtain⟨M,hM⟩:∃ M,M=kF (ep s R) b:=⟨_,rfl⟩
   have hMl:M.length=24:=by rw[hM];exact kN _ _
   have HIM:Hid ((Tryz.prog.info? 176).map (·.size)=some M.length):=af (by rw[hMl];exact bE)
   have HIMs:Hid ((Tryz.prog.info? 176).map (·.size)=some M.toArray.size):=af (by rw[List.size_toArray,hMl];exact bE)
   have HOM:Hid (M.toArray.all (·.oneCell')=true):=af (all_oneCell_toArray (by rw[hM];exact qa _ _))
   rw[←hM] at hB1
   have HRM:Hid (wr.rangeAt (w.heap.size+1) 0 M):=af (aF hB1 rfl)
   have hB0':wr.heap[w.heap.size]?=some (.cells ([.int .i64 0,.int .i64 0,.int .i64 0,.int .i64 0,.int .i64 0,.int .i64 0,.int .i64 0,.int .i64 0,.int .i64 0,.int .i64 0,.int .i64 0,.int .i64 0,.int .i64 0,.int .i64 0,.int .i64 0,.int .i64 0,.bool false,.bool false,.bool false,.bool false,.int .i64 0,.int .i64 0,.int .i64 0,.int .i64 0]:List Value).toArray 176 (0,0)):=hB0
   have HTH:Hid (wr.there w.heap.size 0 M.toArray.size):=af (dG hB0' (by simp[hMl]))
   have HBF:Hid ((wr.setCells w.heap.size 0 M).heap[w.heap.size]?=some (.cells M.toArray 176 (0,0))):=af (oj hB0' (by rw[hMl];rfl))
   have HGF:Hid (w.grownBy (wr.setCells w.heap.size 0 M) none):=af (cy (Nat.le_refl _) _ _ HG.out)
   have HMM:=af hM
   have HBB:=af hbb
   obtain⟨f1,hf1⟩:∃ f1,f1=b.isSome:=⟨_,rfl⟩
   rw[←hf1]
   have HF1:=af hf1
   clear hf1 hM hbb hB0 hB0' hB1 hg
   go_wp2_with (first
    |(refine wpList_load_mid rfl 176 (.tmp 8) rfl (w.heap.size+1) 0 rfl M _ HRM.out Tryz.underlying176 rfl HIM.out ?_)
    |(refine wpList_store_mid rfl 176 (.tmp 6) (.tmp 50) rfl w.heap.size 0 M.toArray rfl rfl HTH.out HIMs.out HOM.out ?_))
   refine bodyPost_ret (aO Tryz.results117 rfl HBF.out Tryz.underlying176 rfl HIMs.out rfl) rfl ⟨?_,HGF.out⟩
   rw[←HBB.out,←HMM.out,←HF1.out]
   rfl
theorem o9 {i:In}(hr:i.rule<9)(hl:i.facts.length≤3):0≤kG i∧kG i≤8999:=by
 have:=pr (mq i.facts) i.facts.length hl
 unfold kG
 omega
theorem me (W:World)(x y:Operand)(xs ys:Array Value):(eqGuard .eql 211 x y (.agg xs) (.agg ys)).run Tryz.prog W=.ok () W:=run_eqGuard_agg W .eql _ x y xs ys (by kernel_rfl)
theorem sI (W:World)(b:Bool)(t lt:Int):(binOp .eql 211 (.agg #[.bool b,.int .i64 t]) (.agg #[.bool true,.int .i64 lt])).run Tryz.prog W=.ok (.bool (b&&t==lt)) W:=by
 rw[run_eql_struct,run_equalIn_agg W 9999 _ _ _ (by kernel_rfl) (by kernel_rfl)]
 unfold Program.fieldsOf
 rw[Tryz.underlying211]
 simp only[]
 go_simp
 cases b with
 |false=>simp
 |true=>by_cases h:t=lt <;> simp[h]
def bW (i:In):Nat:=(kG i).toNat
theorem Ad (wt:Int)(i:In)(x o g N:Nat)(b:Bool)(t:Int)(w:World)(hr:i.rule<9)(hl:i.facts.length≤3)(hm:w.cell? ⟨x,o,none⟩=some (.slice (some ⟨g,0,none⟩) N N))(hN:N=9000)
  (hb:w.cell? ⟨g,bW i*2,none⟩=some (.bool b)) (ht:w.cell? ⟨g,bW i*2+1,none⟩=some (.int .i64 t)) :
  Calls Tryz.prog 89 #[.pointer (some ⟨x,o,none⟩),.agg (aG wt i).toArray] w fun e w'=>e=.returned (.bool (b&&(t==b9 i.facts)))∧w.grownBy w' none:=by
 have HP:Hid (∀ W,Calls Tryz.prog 113 #[.agg (aG wt i).toArray] W fun e w'=>e=.returned (.tuple #[.int .i64 (kG i),.bool true])∧W.grownBy w' none):=af (fun W=>ks wt i W hr hl)
 have hp:=o9 hr hl
 have hpn:kG i=(bW i:Int):=by unfold bW;omega
 obtain⟨L,hL⟩:∃ L,L=aG wt i:=⟨_,rfl⟩
 have hLl:L.length=24:=by rw[hL];rfl
 obtain⟨lt,hlt⟩:∃ lt,lt=b9 i.facts:=⟨_,rfl⟩
 rw[hpn] at HP
 rw[←hL] at HP ⊢
 rw[←hlt]
 obtain⟨p,hpp⟩:∃ p,p=bW i:=⟨_,rfl⟩
 have hp9:p≤8999:=by omega
 rw[←hpp] at HP hb ht
 have HIL:Hid ((Tryz.prog.info? 176).map (·.size)=some L.length):=af (by rw[hLl];exact bE)
 have HBN:Hid ((w.alloc (.cells L.toArray 176)).heap[w.heap.size]?=some (.cells L.toArray 176 (0,0))):=af (heap_alloc_new w _)
 have HRL:Hid ((w.alloc (.cells L.toArray 176)).rangeAt w.heap.size 0 L):=af (aF HBN.out rfl)
 have HL2:Hid (L[2]?=some (.int .i64 lt)):=af (by rw[hL,hlt];rfl)
 have HM:=af hm
 have HB:=af hb
 have HT:=af ht
 have p0:(0:Int)≤(p:Int):=by omega
 have p9:(p:Int)<(N:Int):=by omega
 obtain⟨res,hres⟩:∃ res,res=(b&&(t==lt)):=⟨_,rfl⟩
 rw[←hres]
 have HRES:=af hres
 clear hres hL hlt hpp hpn hp hm hb ht hN hp9
 go_enter Tryz.func89,Tryz.ntmps89
 go_wp2_with (first
  |(refine wpList_load_mid rfl 176 (.tmp 3) rfl w.heap.size 0 rfl L _ HRL.out Tryz.underlying176 rfl HIL.out ?_))
 go_at_call 113
 refine (HP.out _).mono ?_
 rintro e w1 ⟨rfl,hg1⟩
 have HG1:=af (ae (ab (ag w none) _) hg1)
 have hm1:=am HG1.out HM.out
 have hb1:=am HG1.out HB.out
 have ht1:=am HG1.out HT.out
 have hl1:w1.cell? ⟨w.heap.size,2,none⟩=some (.int .i64 lt):=bd ((hg1.block _ (lt_of_block HBN.out) (by simp)).trans HBN.out) HL2.out
 have hq1:=sI w1 b t lt
 have hq2:=me w1
 have hq3:=sI w1.drew b t lt
 have hq4:=me w1.drew
 have hq5:=fun W=>sI W b t lt
 have hq6:=me
 clear hg1 HP
 go_wp2_with fail
 go_quiet ((fail))
 go_wp2_with fail
 go_ret
 refine⟨?_,al HG1.out _⟩
 rw[HRES.out]
 rfl
theorem oY {P:Program}{ops:Array Oper}{rest:List Oper}{op:Oper}{a:Act}{w:World}{Q:Exit→Act→World→Prop}(hgd:op.guard=none)(t:TypeId)(l c:Operand)(ho:op.op=.makeSlice t l c)
  (vl vc v:Value) (w':World) (hl:a.eval l=vl) (hc:a.eval c=vc) (hrun:(Instr.makeSlice t vl vc).run P w=.ok v w') (h:wpList P ops Q rest (a.put op.dst v) w'):wpList P ops Q (op::rest) a w:=
 wpList_plain hgd fun _ hK=>by
  unfold Oper.wp execOp
  simp only[ho,hl,hc,Sem.run_bind,Sem.run_pure,hrun,Result.andThen_ok]
  exact hK _ _ h
theorem AH (wt:Int)(i:In)(x o g N:Nat)(u0 u1:Value)(w:World)(hr:i.rule<9)(hl:i.facts.length≤3)(hm:w.cell? ⟨x,o,none⟩=some (.slice (some ⟨g,0,none⟩) N N))(hN:N=9000)
  (hb:w.cell? ⟨g,bW i*2,none⟩=some u0) (ht:w.cell? ⟨g,bW i*2+1,none⟩=some u1) (hz:∀ j,w.frozen? ⟨g,j,none⟩=false) (hxg:x≠g) :
  Calls Tryz.prog 119 #[.pointer (some ⟨x,o,none⟩),.agg (aG wt i).toArray] w fun e w'=>e=.returned (.tuple #[])∧∃ w1 m,w.grownBy w1 none∧w'=((w1.setCell ⟨g,bW i*2,none⟩ (.bool true)).setCell ⟨g,bW i*2+1,none⟩ (.int .i64 (b9 i.facts))).drewN m:=by
 have HP:Hid (∀ W,Calls Tryz.prog 113 #[.agg (aG wt i).toArray] W fun e w'=>e=.returned (.tuple #[.int .i64 (kG i),.bool true])∧W.grownBy w' none):=af (fun W=>ks wt i W hr hl)
 have hp:=o9 hr hl
 have hpn:kG i=(bW i:Int):=by unfold bW;omega
 obtain⟨L,hL⟩:∃ L,L=aG wt i:=⟨_,rfl⟩
 have hLl:L.length=24:=by rw[hL];rfl
 obtain⟨lt,hlt⟩:∃ lt,lt=b9 i.facts:=⟨_,rfl⟩
 rw[hpn] at HP
 rw[←hL] at HP ⊢
 rw[←hlt]
 obtain⟨p,hpp⟩:∃ p,p=bW i:=⟨_,rfl⟩
 have hp9:p≤8999:=by omega
 rw[←hpp] at HP hb ht ⊢
 have HIL:Hid ((Tryz.prog.info? 176).map (·.size)=some L.length):=af (by rw[hLl];exact bE)
 have HBN:Hid ((w.alloc (.cells L.toArray 176)).heap[w.heap.size]?=some (.cells L.toArray 176 (0,0))):=af (heap_alloc_new w _)
 have HRL:Hid ((w.alloc (.cells L.toArray 176)).rangeAt w.heap.size 0 L):=af (aF HBN.out rfl)
 have HL2:Hid (L[2]?=some (.int .i64 lt)):=af (by rw[hL,hlt];rfl)
 have hgl:g<w.heap.size:=World.block_lt_of_cell? w _ hb
 have hxl:x<w.heap.size:=World.block_lt_of_cell? w _ hm
 have HM:=af hm
 have HB:=af hb
 have HT:=af ht
 have HZ:=af hz
 have p0:(0:Int)≤(p:Int):=by omega
 have p9:(p:Int)<(N:Int):=by omega
 have hNz:((N:Int)==0)=false:=by
  have:(N:Int)≠0:=by omega
  simpa using this
 have hm0:(w.alloc (.cells L.toArray 176)).cell? ⟨x,o,none⟩=some (.slice (some ⟨g,0,none⟩) N N):=am (ab (ag w none) _) hm
 have hxz:x≠w.heap.size:=by omega
 have hgz:g≠w.heap.size:=by omega
 have hgx:=hxg.symm
 clear hL hlt hpp hpn hp hm hb ht hN hp9 hz
 go_enter Tryz.func119,Tryz.ntmps119
 go_wp2_with (first
  |(refine wpList_load_mid rfl 176 (.tmp 3) rfl w.heap.size 0 rfl L _ HRL.out Tryz.underlying176 rfl HIL.out ?_))
 go_at_call 113
 refine (HP.out _).mono ?_
 rintro e w1 ⟨rfl,hg1⟩
 have HG1:=af (ae (ab (ag w none) _) hg1)
 have hm1:=am HG1.out HM.out
 have hb1:=am HG1.out HB.out
 have ht1:=am HG1.out HT.out
 have hl1:w1.cell? ⟨w.heap.size,2,none⟩=some (.int .i64 lt):=bd ((hg1.block _ (lt_of_block HBN.out) (by simp)).trans HBN.out) HL2.out
 have hz1:∀ j,w1.frozen? ⟨g,j,none⟩=false:=fun j=>by
  have hb2:=HG1.out.block g hgl (by simp)
  have:=HZ.out j
  unfold World.frozen? at this ⊢
  simp only at this ⊢
  rw[hb2]
  exact this
 clear hg1 HP
 go_wp2_with fail
 go_region
 all_goals go_wp2_with fail
 all_goals go_returns
 all_goals exact⟨rfl,w1,1,HG1.out,rfl⟩
end Go.Proofs.YthlhbjnkohinmaaGreat
