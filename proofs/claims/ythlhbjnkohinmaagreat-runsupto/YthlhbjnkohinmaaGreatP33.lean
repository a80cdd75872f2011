import Derived.Test.YthlhbjnkohinmaaGreatP18
import Derived.Test.YthlhbjnkohinmaaGreatP32
import Derived.Test.YthlhbjnkohinmaaGreatP19
namespace Go.Proofs.YthlhbjnkohinmaaGreat
set_option maxRecDepth 100000
set_option maxHeartbeats 8000000
open Go.RowKit
theorem yJ:∀ u v:List UInt8,Op.bytesLess u v=true→Op.bytesLess v u=false
 |[],[],h=>by cases h
 |[],_::_,_=>rfl
 |_::_,[],h=>by cases h
 |a::u,b::v,h=>by
  simp only[Op.bytesLess,Bool.or_eq_true,decide_eq_true_eq,Bool.and_eq_true,beq_iff_eq] at h
  simp only[Op.bytesLess,Bool.or_eq_false_iff,decide_eq_false_iff_not,Bool.and_eq_false_iff,beq_eq_false_iff_ne,ne_eq]
  rcases h with h|⟨h1,h2⟩
  ·have h':=UInt8.lt_iff_toNat_lt.mp h
   refine⟨fun h3=>?_,.inl (fun e=>?_)⟩
   ·have:=UInt8.lt_iff_toNat_lt.mp h3
    omega
   ·rw[e] at h'
    omega
  ·subst h1
   refine⟨fun h3=>?_,.inr (yJ u v h2)⟩
   have:=UInt8.lt_iff_toNat_lt.mp h3
   omega
theorem C4:∀ (p u v:List UInt8) ,Op.bytesLess (p++u) (p++v)=Op.bytesLess u v
 |[],_,_=>rfl
 |a::p,u,v=>by simp[Op.bytesLess,C4 p u v]
theorem B4:∀ (u v x y:List UInt8) ,u.length=v.length→Op.bytesLess u v=true→Op.bytesLess (u++x) (v++y)=true
 |[],[],_,_,_,h=>by cases h
 |[],_::_,_,_,hl,_=>by simp at hl
 |_::_,[],_,_,hl,_=>by simp at hl
 |a::u,b::v,x,y,hl,h=>by
  simp only[Op.bytesLess,Bool.or_eq_true,decide_eq_true_eq,Bool.and_eq_true,beq_iff_eq] at h
  simp only[List.cons_append,Op.bytesLess,Bool.or_eq_true,decide_eq_true_eq,Bool.and_eq_true,beq_iff_eq]
  rcases h with h|⟨h1,h2⟩
  ·exact .inl h
  ·exact .inr ⟨h1,B4 u v x y (by simpa using hl) h2⟩
def vP (l:List aw):List UInt8:=l.flatMap fun q=>(cA q.1 q.2.1).data.toList
theorem BA (a b:List aw):Eg (bC a) (bC b)=Op.bytesLess (vP a) (vP b):=by
 unfold Eg
 rw[ByteArray.toList_eq,ByteArray.toList_eq,jk,jk]
 rfl
theorem lx (l:List aw):(vP l).length=3*l.length:=by
 induction l with
 |nil=>rfl
 |cons q l ih=>
  unfold vP at ih ⊢
  rw[List.flatMap_cons,List.length_append,ih,List.length_cons]
  have:(cA q.1 q.2.1).data.toList.length=3:=rfl
  omega
theorem mC (l:List aw)(q:aw):vP (l++[q])=vP l++(cA q.1 q.2.1).data.toList:=by simp[vP]
theorem Ck {c d:Nat}{v u:Int}(h:c<d)(hd:d<60):Op.bytesLess (cA c v).data.toList (cA d u).data.toList=true:=by
 have e:∀ (k:Nat) (x:Int),(cA k x).data.toList=[UInt8.ofNat (97+(k:Int) / 10).toNat,UInt8.ofNat (48+(k:Int) % 10).toNat,UInt8.ofNat (48+x).toNat]:=fun k x=>rfl
 rw[e,e]
 have t:∀ n:Nat,n<256→(UInt8.ofNat n).toNat=n:=fun n hn=>by rw[UInt8.toNat_ofNat'];omega
 by_cases h1:c / 10<d / 10
 ·have:UInt8.ofNat (97+(c:Int) / 10).toNat<UInt8.ofNat (97+(d:Int) / 10).toNat:=by
   rw[UInt8.lt_iff_toNat_lt,t _ (by omega),t _ (by omega)]
   omega
  simp[Op.bytesLess,this]
 ·have h2:c / 10=d / 10:=by omega
  have e1:(97+(c:Int) / 10).toNat=(97+(d:Int) / 10).toNat:=by omega
  have:UInt8.ofNat (48+(c:Int) % 10).toNat<UInt8.ofNat (48+(d:Int) % 10).toNat:=by
   rw[UInt8.lt_iff_toNat_lt,t _ (by omega),t _ (by omega)]
   omega
  simp[Op.bytesLess,this,e1]
def wL (a b:In):Prop:=Op.bytesLess (vP a.facts) (vP b.facts)=true
def pP (F:List aw):Prop:=F.Pairwise fun a b=>a.1<b.1
theorem Dp {F:List aw}(hF:pP F)(hk:re F)(c t1 t2:Int)(i:In):(iN F c t1 t2 i).Pairwise wL:=by
 unfold iN
 refine List.Pairwise.filterMap _ (R:=fun a b:aw=>a.1<b.1∧b.1<60) ?_ ?_
 ·intro a a' ⟨h1,h2⟩ b hb b' hb'
  cases ha:fW i.env c t1 t2 a with
  |none=>rw[ha] at hb;cases hb
  |some e=>
   cases ha':fW i.env c t1 t2 a' with
   |none=>rw[ha'] at hb';cases hb'
   |some e'=>
    rw[ha] at hb
    rw[ha'] at hb'
    simp only[Option.map_some,Option.some.injEq] at hb hb'
    rw[←hb,←hb']
    unfold wL
    simp only[]
    rw[mC,mC,C4]
    exact Ck h1 h2
 ·refine List.Pairwise.imp_of_mem ?_ hF
  intro a b _ hb h
  exact⟨h,(hk b hb).1⟩
theorem sw {F:List aw}(hF:pP F)(hk:re F)(c t1 t2:Int)(m:Nat):∀ (l:List In),l.Pairwise wL→(∀ i∈l,i.facts.length=m)→(l.flatMap (iN F c t1 t2)).Pairwise wL
 |[],_,_=>List.Pairwise.nil
 |i::l,h,hm=>by
  rw[List.flatMap_cons,List.pairwise_append]
  obtain⟨h1,h2⟩:=List.pairwise_cons.mp h
  refine⟨Dp hF hk c t1 t2 i,sw hF hk c t1 t2 m l h2 (fun j hj=>hm j (by simp[hj])),?_⟩
  intro a ha b hb
  obtain⟨j,hj,hbj⟩:=List.mem_flatMap.mp hb
  have sh:∀ (x:In) (y:In),y∈iN F c t1 t2 x→∃ q,y.facts=x.facts++[q]:=by
   intro x y hy
   unfold iN at hy
   obtain⟨q,_,hq⟩:=List.mem_filterMap.mp hy
   cases hg:fW x.env c t1 t2 q with
   |none=>rw[hg] at hq;cases hq
   |some e=>
    rw[hg] at hq
    simp only[Option.map_some,Option.some.injEq] at hq
    exact⟨q,by rw[←hq]⟩
  obtain⟨q,hq⟩:=sh i a ha
  obtain⟨q',hq'⟩:=sh j b hbj
  unfold wL
  rw[hq,hq',mC,mC]
  refine B4 _ _ _ _ ?_ (h1 j hj)
  rw[lx,lx,hm i (by simp),hm j (by simp[hj])]
theorem sm {s:ByteArray}{F:List aw}(hF:pP F)(hk:re F)(hFl:F.length≤60){r:Nat}{L:List Nat}(hL:∀ p∈L,b7 s p=true):∀ k,k≤L.length→(e9 s F r L k).Pairwise wL
 |0,_=>by simp[e9]
 |k+1,hkl=>by
  have ih:=sm hF hk hFl (r:=r) hL k (by omega)
  have hlt:k<L.length:=by omega
  rw[iF s F r L k hlt]
  unfold kL
  split
  ·exact ih.filter _
  ·split
   ·exact sw hF hk _ _ _ _ _ ih (fun i hi=>((jR hFl r hL k (by omega)).2 i hi).1)
   ·exact ih.filter _
def Gf (a b:In):Prop:=a.rule<b.rule∨(a.rule=b.rule∧wL a b)
theorem pK {s:ByteArray}{F:List aw}(hF:pP F)(hk:re F)(hFl:F.length≤60){R:List ay}(hL:∀ r∈R,∀ p∈r.2.1,b7 s p=true):∀ n,n≤R.length→(bA 0 s F R n).Pairwise Gf∧∀ i∈bA 0 s F R n,i.rule<n
 |0,_=>by simp[bA]
 |n+1,hn=>by
  obtain⟨h1,h2⟩:=pK hF hk hFl hL n (by omega)
  have hlt:n<R.length:=by omega
  have e:R.getD n (0,[],[])=R[n]:=by simp[List.getD,List.getElem?_eq_getElem hlt]
  have h3:=sm hF hk hFl (r:=n) (hL _ (List.getElem_mem hlt)) R[n].2.1.length (Nat.le_refl _)
  have h4:=(jR hFl n (hL _ (List.getElem_mem hlt)) R[n].2.1.length (Nat.le_refl _)).2
  rw[jM] at h3 h4
  rw[gi,e]
  refine⟨?_,fun i hi=>?_⟩
  ·rw[List.pairwise_append]
   refine⟨h1,?_,fun a ha b hb=>.inl (by rw[(h4 b hb).2];exact h2 a ha)⟩
   refine List.Pairwise.imp_of_mem ?_ h3
   intro a b ha hb h
   exact .inr ⟨by rw[(h4 a ha).2,(h4 b hb).2],h⟩
  ·rcases List.mem_append.mp hi with hi|hi
   ·have:=h2 i hi;omega
   ·have:=(h4 i hi).2;omega
def cD (wt:Nat→Int)(l:List In):List Value:=l.flatMap fun i=>aG (wt i.rule) i
theorem jT (wt:Nat→Int)(l m:List In):cD wt (l++m)=cD wt l++cD wt m:=by simp[cD]
theorem pF (wt:Nat→Int)(i:In):cD wt [i]=aG (wt i.rule) i:=by simp[cD]
theorem oK {w w':World}{base:Nat}{e:TypeId}{size:Nat}{v:Value}{n:Nat}{xs:List Value}{row:Option Nat}(h:w.ownsRow base e size v n xs)(hg:w.grownBy w' row)
  (hne:∀ g,v.ownBlock=some g→row≠some g):w'.ownsRow base e size v n xs:=by
 obtain⟨h1,h2⟩:=h
 refine⟨h1,?_⟩
 rcases h2 with h2|⟨g,cap,cur,rfl,hb,hh,h3⟩
 ·exact .inl h2
 ·exact .inr ⟨g,cap,cur,rfl,hb,(hg.block g (lt_of_block hh) (fun e=>hne g rfl e.symm)).trans hh,h3⟩
def jx (s:ByteArray)(F:List aw)(R:List ay)(fd:In→Bool)(k:Nat):List In:=(bA 0 s F R k).filter fun i=>!fd i
def kh (s:ByteArray)(F:List aw)(R:List ay)(fd:In→Bool)(k:Nat)(IR:List In)(j:Nat):List In:=jx s F R fd k++(IR.take j).filter fun i=>!fd i
theorem uZ (s:ByteArray)(F:List aw)(R:List ay)(fd:In→Bool)(k:Nat)(IR:List In):kh s F R fd k IR 0=jx s F R fd k:=by simp[kh]
theorem v7 (s:ByteArray)(F:List aw)(R:List ay)(fd:In→Bool)(k:Nat)(IR:List In)(j:Nat)(hj:j<IR.length):kh s F R fd k IR (j+1)=kh s F R fd k IR j++(if fd IR[j] then [] else [IR[j]]):=by
 unfold kh
 rw[j7 _ _ _ hj,List.append_assoc]
 congr 2
 cases fd IR[j] <;> rfl
theorem yP (s:ByteArray)(F:List aw)(R:List ay)(fd:In→Bool)(k:Nat)(hk:k<R.length):kh s F R fd k (dC 0 s F k R[k].2.1) (dC 0 s F k R[k].2.1).length=jx s F R fd (k+1):=by
 unfold kh jx
 rw[List.take_length,gi,List.filter_append]
 simp[List.getD,List.getElem?_eq_getElem hk]
structure l7 (s:ByteArray)(r:ay):Prop where
 conds:∀ p∈r.2.1,b7 s p=true
 pats:bM s r.2.1≤3
 len:r.2.1.length≤400
theorem nw {s:ByteArray}{F:List aw}(hF:F.length≤60)(k:Nat){r:ay}(h:l7 s r):(dC 0 s F k r.2.1).length≤216000:=by
 rw[←jM]
 exact tK hF k h.conds h.pats _ (Nat.le_refl _)
theorem iL {s:ByteArray}{F:List aw}(hF:F.length≤60)(k:Nat){r:ay}(h:l7 s r):∀ i∈dC 0 s F k r.2.1,i.facts.length≤3∧i.rule=k:=by
 rw[←jM]
 intro i hi
 have h1:=(jR hF k h.conds _ (Nat.le_refl _)).2 i hi
 have h2:=kt s r.2.1 r.2.1.length
 exact⟨by have:=h.pats;omega,h1.2⟩
theorem kW {s:ByteArray}{F:List aw}(hF:F.length≤60){R:List ay}(hR:∀ r∈R,l7 s r):∀ k,k≤R.length→(bA 0 s F R k).length≤k*216000
 |0,_=>by simp[bA]
 |k+1,hk=>by
  have hlt:k<R.length:=by omega
  have h1:=kW hF hR k (by omega)
  have h2:=nw hF k (hR _ (List.getElem_mem hlt))
  have e:R.getD k (0,[],[])=R[k]:=by simp[List.getD,List.getElem?_eq_getElem hlt]
  rw[gi,e,List.length_append]
  omega
theorem Gl {s:ByteArray}{F:List aw}(hF:F.length≤60){R:List ay}(hR:∀ r∈R,l7 s r)(hR9:R.length≤9)(fd:In→Bool)(k:Nat)(hk:k<R.length)(j:Nat):(kh s F R fd k (dC 0 s F k R[k].2.1) j).length≤2160000:=by
 unfold kh jx
 have h1:=kW hF hR k (by omega)
 have h2:=nw hF k (hR _ (List.getElem_mem hk))
 have h3:=List.length_filter_le (fun i=>!fd i) (bA 0 s F R k)
 have h4:=List.length_filter_le (fun i=>!fd i) ((dC 0 s F k R[k].2.1).take j)
 have h5:=List.length_take_le' j (dC 0 s F k R[k].2.1)
 rw[List.length_append]
 omega
theorem wY (s:ByteArray)(F:List aw)(R:List ay)(ra fa:Option Addr)(rc fc B B2 x o:Nat)(fd:In→Bool)(w:World)(hR:∀ r∈R,l7 s r)(hR9:R.length≤9)
  (hrow:bS w B s (.slice ra R.length rc) R) (hFl:F.length≤60) (hfr:w.ownsRow B2 114 4 (.slice fa F.length fc) F.length (bG F))
  (HHAS:Hid (∀ (k:Nat) (hk:k<R.length) (i:In) (W:World),i∈dC 0 s F k R[k].2.1→w.grownBy W none→Calls Tryz.prog 89 #[.pointer (some ⟨x,o,none⟩),.agg (aG (ep s R k) i).toArray] W fun e w'=>e=.returned (.bool (fd i))∧W.grownBy w' none)) :
  Calls Tryz.prog 60 #[.slice ra R.length rc,.slice fa F.length fc,.pointer (some ⟨x,o,none⟩)] w fun e w'=>∃ v,e=.returned v∧w'.ownsRow w.heap.size 176 24 v (jx s F R fd R.length).length (cD (ep s R) (jx s F R fd R.length))∧w.grownBy w' none:=by
 obtain⟨i0,hi0,hz0,hz1,hz2⟩:=info_parts Tryz.infoI
 obtain⟨xs0,hrow1,hpar⟩:=hrow
 have HROW:=af hrow1
 have HPAR:=af hpar
 have HFR:=af hfr
 have HR:=af hR
 clear hrow1 hpar hfr hR
 go_enter Tryz.func60,Tryz.ntmps60
 go_wp2_with fail
 go_loopw [7,15] (fun t i wr=>∃ k:Nat,k≤R.length∧i=.int .i64 k∧wr.ownsRow w.heap.size 176 24 t (jx s F R fd k).length (cD (ep s R) (jx s F R fd k))∧w.grownBy wr none) (fun _ i _=>R.length - (intOf i).toNat)
 case atStart=>exact⟨0,by omega,rfl,World.ownsRow_nil _ _ _ _,ag _ _⟩
 case round=>
  obtain⟨k,hk,rfl,hown,hg⟩:=hrel
  have HG:=af hg
  have HOW:=af hown
  by_cases hlt:k<R.length
  ·have hrw:=HR.out _ (List.getElem_mem hlt)
   obtain⟨a1,m1,c1,a2,m2,c2,x0,x1,x2,o1,o2⟩:=jO R xs0 HPAR.out k hlt
   have em1:=ar o1
   subst em1
   obtain⟨gr,hra,_,_,hgr,hrcell⟩:=aE HROW.out (by omega)
   subst hra
   obtain⟨wk,hwk⟩:∃ wk:Int,wk=bt s R[k].1 - 48:=⟨_,rfl⟩
   have hwg:ep s R k=wk:=by rw[hwk];simp[ep,List.getD,List.getElem?_eq_getElem hlt]
   have d0:=am hg (hrcell _ _ x0)
   have d1:=am hg (hrcell _ _ x1)
   have d2:=am hg (hrcell _ _ x2)
   rw[←hwk] at d0
   obtain⟨m1,hm1⟩:∃ m1,m1=R[k].2.1.length:=⟨_,rfl⟩
   rw[←hm1] at d1
   obtain⟨IR,hIR⟩:∃ IR,IR=dC 0 s F k R[k].2.1:=⟨_,rfl⟩
   have HCO:Hid (∀ W,w.grownBy W none→Calls Tryz.prog 88 #[.int .i64 k,.agg #[.int .i64 wk,.slice a1 m1 c1,.slice a2 m2 c2],.slice fa F.length fc] W fun e w'=>∃ v,e=.returned v∧w'.ownsRow W.heap.size 176 24 v IR.length (dD wk IR)∧W.grownBy w' none):=af (fun W hW=>by
    rw[hIR,hm1]
    exact lQ s F k R[k].2.1 wk a1 a2 fa c1 m2 c2 fc B B2 W hrw.conds hrw.pats hrw.len (aq o1 hW (fun g hg=>by cases hg)) hFl (aq HFR.out hW (fun g hg=>by cases hg)))
   have HHK:=af (HHAS.out k hlt)
   rw[←hIR,hwg] at HHK
   have HIRL:IR.length≤216000:=by rw[hIR];exact nw hFl k hrw
   have HIRR:Hid (∀ i∈IR,i.rule=k):=af (by rw[hIR];exact fun i hi=>(iL hFl k hrw i hi).2)
   have HJS:=af (v7 s F R fd k IR)
   have HJA:Hid (kh s F R fd k IR IR.length=jx s F R fd (k+1)):=af (by rw[hIR];exact yP s F R fd k hlt)
   have HJL:Hid (∀ j,(kh s F R fd k IR j).length≤2160000):=af (fun j=>by rw[hIR];exact Gl hFl HR.out hR9 fd k hlt j)
   have hsz:=hg.size
   have hne:gr≠wr.heap.size:=by omega
   have hgl:gr<wr.heap.size:=by omega
   obtain⟨a,m,cc,rfl⟩:=an hown
   have em:=ar hown
   subst em
   have HST:Hid (∀ W,wr.grownBy W none→W.ownsRow w.heap.size 176 24 (.slice a (jx s F R fd k).length cc) (kh s F R fd k IR 0).length (cD (ep s R) (kh s F R fd k IR 0))):=af (fun W hW=>by
    rw[uZ]
    exact aq HOW.out hW (fun g hg=>by cases hg))
   have HSL:Hid (∀ g,(Value.slice a (jx s F R fd k).length cc).ownBlock=some g→g<wr.heap.size):=af (fun g hg=>(HOW.out.lt g hg).2)
   have HWGT:=af hwg
   obtain⟨n0,hn0⟩:∃ n0,n0=(jx s F R fd k).length:=⟨_,rfl⟩
   rw[←hn0] at HST HSL ⊢
   clear hn0 hIR hm1 hwk hwg x0 x1 x2 o1 o2 hrcell hrw hown hg HOW
   go_wp2_with fail
   go_at_call 88
   refine (HCO.out _ (ae HG.out (ab (ag _ _) _))).mono ?_
   rintro e w1 ⟨ov,rfl,hov,hg1⟩
   have HW1:Hid (wr.grownBy w1 none):=af (ae (ab (ag _ _) _) hg1)
   obtain⟨oa,om,oc,rfl⟩:=an hov
   have eom:=ar hov
   subst eom
   have HOV:=af hov
   have hobs:∀ g,(Value.slice oa IR.length oc).ownBlock=some g→wr.heap.size<g∧g<w1.heap.size:=fun g hgg=>by
    have:=hov.lt g hgg
    simp at this
    omega
   have HOBS:=af hobs
   have hszw:=HW1.out.size
   clear hov hg1 hobs HCO
   go_wp2_with fail
   go_loopw [7,26] (fun t i wr2=>∃ j:Nat,j≤IR.length∧i=.int .i64 j∧wr2.ownsRow w.heap.size 176 24 t (kh s F R fd k IR j).length (cD (ep s R) (kh s F R fd k IR j))∧w.grownBy wr2 none∧wr2.ownsRow 0 176 24 (.slice oa IR.length oc) IR.length (dD wk IR)∧w1.heap.size≤wr2.heap.size∧(∀ g,(Value.slice oa IR.length oc).ownBlock=some g→t.ownBlock≠some g)) (fun _ i _=>IR.length - (intOf i).toNat)
   case atStart=>exact⟨0,by omega,rfl,HST.out _ HW1.out,ae HG.out HW1.out,bP HOV.out (by omega),Nat.le_refl _,fun g hg1 hg2=>by
    have q1:=(HOBS.out g hg1).1
    have q2:=HSL.out g hg2
    omega⟩
   case round=>
    rename World=>wr2
    obtain⟨j,hj,rfl,hown,hg2,hor,hsw,hnb⟩:=hrel
    have HG2:=af hg2
    have HOW2:=af hown
    have HNB:=af hnb
    have HOR:=af hor
    obtain⟨ta,tm,tc,rfl⟩:=an hown
    have em2:=ar hown
    subst em2
    by_cases hltj:j<IR.length
    ·obtain⟨go,hoa,_,_,hgol,hocell⟩:=aE hor (by omega)
     subst hoa
     obtain⟨L,hL⟩:∃ L,L=aG wk IR[j]:=⟨_,rfl⟩
     have HRG:Hid (wr2.rangeAt go (j*24) L):=af (by rw[hL];exact eX (eD wk) hocell hltj)
     have hLl:L.length=24:=by rw[hL];rfl
     have HIL:Hid ((Tryz.prog.info? 176).map (·.size)=some L.length):=af (by rw[hLl];exact bE)
     have HIZ:Hid ((Tryz.prog.info? 176).map (fun i=>(i.zero,i.size))=some (some (.agg #[.int .i64 0,.int .i64 0,.int .i64 0,.int .i64 0,.int .i64 0,.int .i64 0,.int .i64 0,.int .i64 0,.int .i64 0,.int .i64 0,.int .i64 0,.int .i64 0,.int .i64 0,.int .i64 0,.int .i64 0,.int .i64 0,.bool false,.bool false,.bool false,.bool false,.int .i64 0,.int .i64 0,.int .i64 0,.int .i64 0]),L.length)):=af (by rw[hLl];kernel_rfl)
     have HON:Hid (∀ u∈L,u.oneCell'=true):=af (by rw[hL];exact cm _ _)
     have HONA:Hid (L.toArray.all (·.oneCell')=true):=af (all_oneCell_toArray HON.out)
     have HRL:Hid ((wr2.alloc (.cells L.toArray 176)).rangeAt wr2.heap.size 0 L):=af (aF (heap_alloc_new wr2 _) rfl)
     have HCA:=af (fun W=>HHK.out IR[j] W (List.getElem_mem hltj))
     rw[←hL] at HCA
     have HSJ:=af (HJS.out j hltj)
     have hlen:=HJL.out j
     have hsz2:=hg2.size
     have HLT:=af (fun g hg=>(HOW2.out.lt g hg).1)
     have HOWG:Hid (∀ W,wr2.grownBy W none→W.ownsRow w.heap.size 176 24 (.slice ta (kh s F R fd k IR j).length tc) (kh s F R fd k IR j).length (cD (ep s R) (kh s F R fd k IR j))):=af (fun W hW=>aq HOW2.out hW (fun g hg=>by cases hg))
     have HORG:Hid (∀ W,wr2.grownBy W none→W.ownsRow 0 176 24 (.slice (some ⟨go,0,none⟩) IR.length oc) IR.length (dD wk IR)):=af (fun W hW=>aq HOR.out hW (fun g hg=>by cases hg))
     obtain⟨ok,hok⟩:∃ ok,ok=fd IR[j]:=⟨_,rfl⟩
     rw[←hok] at HCA HSJ
     have HFIN:Hid (ok=false→∀ (w3:World) (v':Value),w3.ownsRow w.heap.size 176 24 v' ((kh s F R fd k IR j).length+1) (cD (ep s R) (kh s F R fd k IR j)++L)→w3.ownsRow w.heap.size 176 24 v' (kh s F R fd k IR (j+1)).length (cD (ep s R) (kh s F R fd k IR (j+1)))):=af (fun e w3 v' h=>by
      rw[HSJ.out,e,if_neg (by simp),jT,pF,List.length_append,HIRR.out _ (List.getElem_mem hltj),HWGT.out,←hL]
      exact h)
     have HSKIP:Hid (ok=true→kh s F R fd k IR (j+1)=kh s F R fd k IR j):=af (fun e=>by rw[HSJ.out,e];simp)
     obtain⟨nl,hnl⟩:∃ nl,nl=(kh s F R fd k IR j).length:=⟨_,rfl⟩
     obtain⟨xs,hxs⟩:∃ xs,xs=cD (ep s R) (kh s F R fd k IR j):=⟨_,rfl⟩
     rw[←hnl] at HFIN HOWG HOW2 HLT HNB hlen ⊢
     rw[←hxs] at HFIN HOWG HOW2
     have HNL:=af hnl
     have HXS:=af hxs
     have hneo:go≠wr2.heap.size:=by omega
     clear hnl hxs HSJ hL hok hown hg2 hor hnb hocell HHK HJS HJL
     go_wp2_with (first
      |(refine wpList_load_mid rfl 176 (.tmp 28) rfl go (j*24) rfl L _ HRG.out Tryz.underlying176 rfl HIL.out ?_)
      |(refine az rfl 176 (.tmp 12) (.tmp 29) rfl _ L rfl rfl hLl.symm HIL.out HONA.out ?_)
      |(refine wpList_load_mid rfl 176 (.tmp 12) rfl wr2.heap.size 0 rfl L _ HRL.out Tryz.underlying176 rfl HIL.out ?_))
     go_at_call 89
     refine (HCA.out _ (ae HG2.out (ab (ag _ _) _))).mono ?_
     rintro e w2 ⟨rfl,hg3⟩
     have HG3:=af (ae (ab (ag wr2 none) (.cells L.toArray 176)) hg3)
     have HRL2:Hid (w2.rangeAt wr2.heap.size 0 L):=af (aF ((hg3.block _ (lt_of_block (heap_alloc_new wr2 _)) (by simp)).trans (heap_alloc_new wr2 _)) rfl)
     have how1:=HOWG.out _ (ab HG3.out (.cells L.toArray 176))
     have hszr:wr2.heap.size≤w2.heap.size:=HG3.out.size
     clear hg3 HRG HRL HCA
     cases ok with
     |false=>
      have HFI:=af (HFIN.out rfl)
      clear HFIN HSKIP
      go_wp2_with (first
       |(refine wpList_load_mid rfl 176 (.tmp 12) rfl wr2.heap.size 0 rfl L _ HRL2.out Tryz.underlying176 rfl HIL.out ?_)
       |(refine br rfl 125 176 (.tmp 35) rfl _ L rfl Tryz.underlying125 HIZ.out (by omega) (by omega) ?_)
       |(at_builtin;refine wpList_append_own_at _ rfl (.tmp 34) (.tmp 36) 125 rfl (w.heap.size) 176 i0 (.agg #[.int .i64 0,.int .i64 0,.int .i64 0,.int .i64 0,.int .i64 0,.int .i64 0,.int .i64 0,.int .i64 0,.int .i64 0,.int .i64 0,.int .i64 0,.int .i64 0,.int .i64 0,.int .i64 0,.int .i64 0,.int .i64 0,.bool false,.bool false,.bool false,.bool false,.int .i64 0,.int .i64 0,.int .i64 0,.int .i64 0]) 24 168 Tryz.underlying125 hi0 hz0 hz1 hz2 rfl (by decide) _ _ _ rfl how1 _ 1 1 L rfl (by omega) (fun j u hj=>bj hj) HON.out (by unfold maxLen;omega) (by omega) (by simp;omega) ?_))
      intro v' w3 hown3 hg3 _ hpl
      have HO3:=af (HFI.out _ _ hown3)
      have HGR3:Hid (w.grownBy w3 none):=af (aL (ae HG2.out (ab HG3.out _)) hg3 HLT.out)
      have HOR3:Hid (w3.ownsRow 0 176 24 (.slice (some ⟨go,0,none⟩) IR.length oc) IR.length (dD wk IR)):=af (oK (HORG.out _ (ab HG3.out _)) hg3 (fun g hg e=>HNB.out g hg e))
      have HS3:Hid (w1.heap.size≤w3.heap.size):=af (by have:=hg3.size;simp at this;omega)
      have HN3:Hid (∀ g,(Value.slice (some ⟨go,0,none⟩) IR.length oc).ownBlock=some g→v'.ownBlock≠some g):=af (fun g hg=>by
       rcases hpl with h|h
       ·rw[h];exact HNB.out g hg
       ·rw[h]
        have:=(HOBS.out g hg).2
        simp
        omega)
      clear hown3 hg3 hpl
      go_wp2_with fail
      go_roundw
      case rel=>exact⟨j+1,by omega,by go_num,HO3.out,HGR3.out,HOR3.out,HS3.out,HN3.out⟩
      case measure=>simp[intOf];omega
     |true=>
      have HSK:=af (HSKIP.out rfl)
      clear HFIN HSKIP how1
      go_wp2_with fail
      go_roundw
      case rel=>exact⟨j+1,by omega,by go_num,by rw[HSK.out,←HNL.out,←HXS.out];exact HOWG.out _ HG3.out,ae HG2.out HG3.out,HORG.out _ HG3.out,by omega,HNB.out⟩
      case measure=>simp[intOf];omega
    ·have ej:j=IR.length:=by omega
     subst ej
     have HO2:Hid (wr2.ownsRow w.heap.size 176 24 (.slice ta (kh s F R fd k IR IR.length).length tc) (jx s F R fd (k+1)).length (cD (ep s R) (jx s F R fd (k+1)))):=af (by
      rw[←HJA.out]
      exact HOW2.out)
     clear hown hg2 hor hnb HHK HJS HJL HOW2
     go_wp2_with fail
     go_roundw
     case rel=>exact⟨k+1,by omega,by go_num,HO2.out,HG2.out⟩
     case measure=>simp[intOf];omega
  ·have hkl:k=R.length:=by omega
   subst hkl
   clear hg hown
   go_wp2_with fail
   go_ret
   exact⟨_,rfl,HOW.out,HG.out⟩
end Go.Proofs.YthlhbjnkohinmaaGreat
