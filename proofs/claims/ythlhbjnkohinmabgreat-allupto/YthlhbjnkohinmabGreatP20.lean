import Derived.Test.YthlhbjnkohinmabGreatP18
namespace Go.Proofs.YthlhbjnkohinmabGreat
set_option maxRecDepth 100000
set_option maxHeartbeats 8000000
open Go.RowKit
theorem mY {t:Int}(h:dw t=2):bM t=false∧dD t=t - 119∧119≤t∧t≠95:=by
 unfold dw at h
 unfold dD
 split at h
 ·omega
 ·rename_i hd
  split at h
  ·rename_i hl
   refine⟨by simpa using hd,by rw[if_neg hd,if_pos hl],?_,?_⟩
   ·simp[eA] at hl;omega
   ·intro e;subst e;simp[eA] at hl
  ·omega
theorem sD {e e':fu}{t d:Int}(h:jE e t d=some e'):(∀ n,(e n).isSome=true→(e' n).isSome=true)∧(dw t=2→(e' (dD t).toNat).isSome=true):=by
 unfold jE at h
 split at h
 ·rename_i h95
  cases h
  exact⟨fun n hn=>hn,fun hk=>absurd h95 (mY hk).2.2.2⟩
 ·split at h
  ·rename_i hd
   split at h
   ·cases h
    exact⟨fun n hn=>hn,fun hk=>by have:=(mY hk).1;rw[this] at hd;cases hd⟩
   ·cases h
  ·split at h
   ·rename_i he
    cases h
    refine⟨fun n hn=>?_,fun hk=>?_⟩
    ·unfold cI
     split
     ·rfl
     ·exact hn
    ·rw[(mY hk).2.1]
     simp[cI]
   ·rename_i v hv
    split at h
    ·cases h
     refine⟨fun n hn=>hn,fun hk=>?_⟩
     rw[(mY hk).2.1,hv]
     rfl
    ·cases h
theorem zC {e e':fu}{c t1 t2:Int}{q:aw}(h:gd e c t1 t2 q=some e'):(∀ n,(e n).isSome=true→(e' n).isSome=true)∧(dw t1=2→(e' (dD t1).toNat).isSome=true)∧(dw t2=2→(e' (dD t2).toNat).isSome=true):=by
 unfold gd at h
 split at h
 ·cases h1:jE e t1 ((q.1:Int) % 10) with
  |none=>rw[h1] at h;cases h
  |some e1=>
   rw[h1] at h
   have a1:=sD h1
   have a2:=sD (show jE e1 t2 q.2.1=some e' from h)
   exact⟨fun n hn=>a2.1 n (a1.1 n hn),fun hk=>a2.1 _ (a1.2 hk),a2.2⟩
 ·cases h
theorem nQ {e:fu}{t:Int}(hs:bg t=true)(h:dw t=2→(e (dD t).toNat).isSome=true):fH 0 e t=fH (-1) e t:=by
 unfold fH
 split
 ·rfl
 ·rename_i hd
  have hk:dw t=2:=by
   unfold dw
   rw[if_neg hd]
   have:eA t=true:=by
    unfold bg at hs
    simpa [hd] using hs
   rw[if_pos this]
  have:=h hk
  rw[(mY hk).2.1] at this
  obtain⟨v,hv⟩:=Option.isSome_iff_exists.mp this
  rw[hv]
  rfl
theorem l9 {s:ByteArray}{F:List aw}{r:Nat}{L:List Nat}(hL:∀ p∈L,b9 s p=true)(hb:cd s L (fun _=>false)≠none):∀ k,k≤L.length→(L.take k).foldl (kK (-1) s F) [In.start r]=e7 s F r L k∧∃ bs,cd s (L.take k) (fun _=>false)=some bs∧∀ i∈e7 s F r L k,∀ n:Nat,bs n=true→(i.env n).isSome=true
 |0,_=>by
  refine⟨rfl,_,rfl,fun i _ n h=>?_⟩
  cases h
 |k+1,hk=>by
  obtain⟨h1,bs,h2,h3⟩:=l9 hL hb k (by omega)
  have hlt:k<L.length:=by omega
  have hok:=hL _ (List.getElem_mem hlt)
  have hct:=jx hlt h2
  have hnn:cd s (L.take (k+1)) (fun _=>false)≠none:=fun e=>hb (lQ e)
  have e1:(L.take (k+1)).foldl (kK (-1) s F) [In.start r]=kK (-1) s F (e7 s F r L k) L[k]:=by
   rw[List.take_succ_eq_append_getElem hlt,List.foldl_append,h1]
   rfl
  rw[e1,iL s F r L k hlt]
  by_cases h33:bt s L[k]=33
  ·have hkd:(df s L[k]).k=2:=(zh h33).2
   rw[if_neg (by omega)] at hct
   have hlk:im s L[k] bs=false:=by
    cases hc:im s L[k] bs with
    |false=>rfl
    |true=>rw[hc] at hct;exact absurd hct hnn
   rw[hlk] at hct
   refine⟨by unfold kK;rw[if_pos h33,if_pos h33],bs,by simpa using hct,fun i hi=>?_⟩
   unfold kK at hi
   rw[if_pos h33] at hi
   exact h3 i (List.mem_filter.mp hi).1
  ·by_cases hc:aU (bt s L[k])=true
   ·obtain⟨_,hkd⟩:=zk hc
    have ecd:df s L[k]=l4 1 s L[k]:=by simp[df,h33,hc]
    rw[if_pos hkd] at hct
    refine⟨by unfold kK;rw[if_neg h33,if_pos hc,if_neg h33,if_pos hc],_,hct,fun i hi n hn=>?_⟩
    unfold kK at hi
    rw[if_neg h33,if_pos hc] at hi
    obtain⟨j,hj,hm⟩:=List.mem_flatMap.mp hi
    unfold iE at hm
    obtain⟨q,_,hq⟩:=List.mem_filterMap.mp hm
    cases hg:gd j.env (bt s L[k]) (bt s (L[k]+1)) (bt s (L[k]+2)) q with
    |none=>rw[hg] at hq;cases hq
    |some e=>
     rw[hg] at hq
     simp only[Option.map_some,Option.some.injEq] at hq
     rw[←hq]
     obtain⟨g1,g2,g3⟩:=zC hg
     unfold uy at hn
     rw[ecd] at hn
     have hn':(bs n=true∨(dw (bt s (L[k]+1))=2∧(n:Int)=dD (bt s (L[k]+1))))∨(dw (bt s (L[k]+2))=2∧(n:Int)=dD (bt s (L[k]+2))):=by
      simp[l4,je] at hn
      rcases hn with (h|⟨h1,h2⟩)|⟨h1,h2⟩
      ·exact .inl (.inl h)
      ·exact .inl (.inr ⟨of_decide_eq_true h1,of_decide_eq_true h2⟩)
      ·exact .inr ⟨of_decide_eq_true h1,of_decide_eq_true h2⟩
     rcases hn' with (hn|⟨hk2,hv⟩)|⟨hk2,hv⟩
     ·exact g1 n (h3 j hj n hn)
     ·have:=g2 hk2
      rw[←hv] at this
      simpa using this
     ·have:=g3 hk2
      rw[←hv] at this
      simpa using this
   ·have hcf:aU (bt s L[k])=false:=by simpa using hc
    obtain⟨_,hkd⟩:=yX h33 hcf
    obtain⟨t1,_,t3⟩:=uu hok h33 hcf
    have ecd:df s L[k]=rq s L[k]:=by simp[df,h33,hcf]
    rw[if_neg (by omega)] at hct
    have hlk:im s L[k] bs=false:=by
     cases hc:im s L[k] bs with
     |false=>rfl
     |true=>rw[hc] at hct;exact absurd hct hnn
    rw[hlk] at hct
    have hlk3:=hlk
    unfold im at hlk3
    rw[ecd] at hlk3
    have hlk2:(dw (bt s L[k])=2→bs (dD (bt s L[k])).toNat=true)∧(dw (bt s (L[k]+2))=2→bs (dD (bt s (L[k]+2))).toNat=true):=by
     simp[rq,fe] at hlk3
     exact⟨fun h=>hlk3.1 (decide_eq_true h),fun h=>hlk3.2 (decide_eq_true h)⟩
    refine⟨?_,bs,by simpa using hct,fun i hi=>?_⟩
    ·unfold kK
     rw[if_neg h33,if_neg hc,if_neg h33,if_neg hc]
     refine List.filter_congr fun i hi=>?_
     have hb3:=h3 i hi
     rw[nQ t1 (fun hk2=>?_),nQ t3 (fun hk2=>?_)]
     ·exact hb3 _ (hlk2.2 hk2)
     ·exact hb3 _ (hlk2.1 hk2)
    ·unfold kK at hi
     rw[if_neg h33,if_neg hc] at hi
     exact h3 i (List.mem_filter.mp hi).1
theorem Ej {s:ByteArray}{F:List aw}{r:Nat}{L:List Nat}(hL:∀ p∈L,b9 s p=true)(hb:cd s L (fun _=>false)≠none):dz (-1) s F r L=dz 0 s F r L:=by
 have:=(l9 (F:=F) (r:=r) hL hb L.length (Nat.le_refl _)).1
 rw[List.take_length] at this
 rw[←jI]
 exact this
theorem yy {s:ByteArray}{F:List aw}{R:List ay}(hL:∀ r∈R,∀ p∈r.2.1,b9 s p=true)(hb:∀ r∈R,cd s r.2.1 (fun _=>false)≠none):∀ n,n≤R.length→bz (-1) s F R n=bz 0 s F R n
 |0,_=>rfl
 |n+1,hn=>by
  have hlt:n<R.length:=by omega
  have e:R.getD n (0,[],[])=R[n]:=by simp[List.getD,List.getElem?_eq_getElem hlt]
  rw[fX,fX,yy hL hb n (by omega),e,Ej (hL _ (List.getElem_mem hlt)) (hb _ (List.getElem_mem hlt))]
end Go.Proofs.YthlhbjnkohinmabGreat
