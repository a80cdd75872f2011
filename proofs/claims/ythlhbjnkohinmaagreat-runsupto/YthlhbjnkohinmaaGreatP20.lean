import Derived.Test.YthlhbjnkohinmaaGreatP18
namespace Go.Proofs.YthlhbjnkohinmaaGreat
set_option maxRecDepth 100000
set_option maxHeartbeats 8000000
open Go.RowKit
theorem nD {t:Int}(h:dy t=2):bN t=false∧dE t=t - 119∧119≤t∧t≠95:=by
 unfold dy at h
 unfold dE
 split at h
 ·omega
 ·rename_i hd
  split at h
  ·rename_i hl
   refine⟨by simpa using hd,by rw[if_neg hd,if_pos hl],?_,?_⟩
   ·simp[ex] at hl;omega
   ·intro e;subst e;simp[ex] at hl
  ·omega
theorem rW {e e':fu}{t d:Int}(h:jN e t d=some e'):(∀ n,(e n).isSome=true→(e' n).isSome=true)∧(dy t=2→(e' (dE t).toNat).isSome=true):=by
 unfold jN at h
 split at h
 ·rename_i h95
  cases h
  exact⟨fun n hn=>hn,fun hk=>absurd h95 (nD hk).2.2.2⟩
 ·split at h
  ·rename_i hd
   split at h
   ·cases h
    exact⟨fun n hn=>hn,fun hk=>by have:=(nD hk).1;rw[this] at hd;cases hd⟩
   ·cases h
  ·split at h
   ·rename_i he
    cases h
    refine⟨fun n hn=>?_,fun hk=>?_⟩
    ·unfold cI
     split
     ·rfl
     ·exact hn
    ·rw[(nD hk).2.1]
     simp[cI]
   ·rename_i v hv
    split at h
    ·cases h
     refine⟨fun n hn=>hn,fun hk=>?_⟩
     rw[(nD hk).2.1,hv]
     rfl
    ·cases h
theorem BH {e e':fu}{c t1 t2:Int}{q:aw}(h:fW e c t1 t2 q=some e'):(∀ n,(e n).isSome=true→(e' n).isSome=true)∧(dy t1=2→(e' (dE t1).toNat).isSome=true)∧(dy t2=2→(e' (dE t2).toNat).isSome=true):=by
 unfold fW at h
 split at h
 ·cases h1:jN e t1 ((q.1:Int) % 10) with
  |none=>rw[h1] at h;cases h
  |some e1=>
   rw[h1] at h
   have a1:=rW h1
   have a2:=rW (show jN e1 t2 q.2.1=some e' from h)
   exact⟨fun n hn=>a2.1 n (a1.1 n hn),fun hk=>a2.1 _ (a1.2 hk),a2.2⟩
 ·cases h
theorem nU {e:fu}{t:Int}(hs:be t=true)(h:dy t=2→(e (dE t).toNat).isSome=true):fG 0 e t=fG (-1) e t:=by
 unfold fG
 split
 ·rfl
 ·rename_i hd
  have hk:dy t=2:=by
   unfold dy
   rw[if_neg hd]
   have:ex t=true:=by
    unfold be at hs
    simpa [hd] using hs
   rw[if_pos this]
  have:=h hk
  rw[(nD hk).2.1] at this
  obtain⟨v,hv⟩:=Option.isSome_iff_exists.mp this
  rw[hv]
  rfl
theorem mw {s:ByteArray}{F:List aw}{r:Nat}{L:List Nat}(hL:∀ p∈L,b7 s p=true)(hb:ce s L (fun _=>false)≠none):∀ k,k≤L.length→(L.take k).foldl (kL (-1) s F) [In.start r]=e9 s F r L k∧∃ bs,ce s (L.take k) (fun _=>false)=some bs∧∀ i∈e9 s F r L k,∀ n:Nat,bs n=true→(i.env n).isSome=true
 |0,_=>by
  refine⟨rfl,_,rfl,fun i _ n h=>?_⟩
  cases h
 |k+1,hk=>by
  obtain⟨h1,bs,h2,h3⟩:=mw hL hb k (by omega)
  have hlt:k<L.length:=by omega
  have hok:=hL _ (List.getElem_mem hlt)
  have hct:=js hlt h2
  have hnn:ce s (L.take (k+1)) (fun _=>false)≠none:=fun e=>hb (lU e)
  have e1:(L.take (k+1)).foldl (kL (-1) s F) [In.start r]=kL (-1) s F (e9 s F r L k) L[k]:=by
   rw[List.take_succ_eq_append_getElem hlt,List.foldl_append,h1]
   rfl
  rw[e1,iF s F r L k hlt]
  by_cases h33:bt s L[k]=33
  ·have hkd:(dj s L[k]).k=2:=(yz h33).2
   rw[if_neg (by omega)] at hct
   have hlk:ij s L[k] bs=false:=by
    cases hc:ij s L[k] bs with
    |false=>rfl
    |true=>rw[hc] at hct;exact absurd hct hnn
   rw[hlk] at hct
   refine⟨by unfold kL;rw[if_pos h33,if_pos h33],bs,by simpa using hct,fun i hi=>?_⟩
   unfold kL at hi
   rw[if_pos h33] at hi
   exact h3 i (List.mem_filter.mp hi).1
  ·by_cases hc:aR (bt s L[k])=true
   ·obtain⟨_,hkd⟩:=yX hc
    have ecd:dj s L[k]=l4 1 s L[k]:=by simp[dj,h33,hc]
    rw[if_pos hkd] at hct
    refine⟨by unfold kL;rw[if_neg h33,if_pos hc,if_neg h33,if_pos hc],_,hct,fun i hi n hn=>?_⟩
    unfold kL at hi
    rw[if_neg h33,if_pos hc] at hi
    obtain⟨j,hj,hm⟩:=List.mem_flatMap.mp hi
    unfold iN at hm
    obtain⟨q,_,hq⟩:=List.mem_filterMap.mp hm
    cases hg:fW j.env (bt s L[k]) (bt s (L[k]+1)) (bt s (L[k]+2)) q with
    |none=>rw[hg] at hq;cases hq
    |some e=>
     rw[hg] at hq
     simp only[Option.map_some,Option.some.injEq] at hq
     rw[←hq]
     obtain⟨g1,g2,g3⟩:=BH hg
     unfold vF at hn
     rw[ecd] at hn
     have hn':(bs n=true∨(dy (bt s (L[k]+1))=2∧(n:Int)=dE (bt s (L[k]+1))))∨(dy (bt s (L[k]+2))=2∧(n:Int)=dE (bt s (L[k]+2))):=by
      simp[l4,je] at hn
      rcases hn with (h|⟨h1,h2⟩)|⟨h1,h2⟩
      ·exact .inl (.inl h)
      ·exact .inl (.inr ⟨of_decide_eq_true h1,of_decide_eq_true h2⟩)
      ·exact .inr ⟨of_decide_eq_true h1,of_decide_eq_true h2⟩
     rcases hn' with (hn|⟨hk2,hv⟩)|⟨hk2,hv⟩
     ·exact g1 n (h3 j hj n hn)
     ·have:=g2 hk2
      rw[←hv] at this
      simpa using this
     ·have:=g3 hk2
      rw[←hv] at this
      simpa using this
   ·have hcf:aR (bt s L[k])=false:=by simpa using hc
    obtain⟨_,hkd⟩:=yL h33 hcf
    obtain⟨t1,_,t3⟩:=uJ hok h33 hcf
    have ecd:dj s L[k]=rp s L[k]:=by simp[dj,h33,hcf]
    rw[if_neg (by omega)] at hct
    have hlk:ij s L[k] bs=false:=by
     cases hc:ij s L[k] bs with
     |false=>rfl
     |true=>rw[hc] at hct;exact absurd hct hnn
    rw[hlk] at hct
    have hlk3:=hlk
    unfold ij at hlk3
    rw[ecd] at hlk3
    have hlk2:(dy (bt s L[k])=2→bs (dE (bt s L[k])).toNat=true)∧(dy (bt s (L[k]+2))=2→bs (dE (bt s (L[k]+2))).toNat=true):=by
     simp[rp,fe] at hlk3
     exact⟨fun h=>hlk3.1 (decide_eq_true h),fun h=>hlk3.2 (decide_eq_true h)⟩
    refine⟨?_,bs,by simpa using hct,fun i hi=>?_⟩
    ·unfold kL
     rw[if_neg h33,if_neg hc,if_neg h33,if_neg hc]
     refine List.filter_congr fun i hi=>?_
     have hb3:=h3 i hi
     rw[nU t1 (fun hk2=>?_),nU t3 (fun hk2=>?_)]
     ·exact hb3 _ (hlk2.2 hk2)
     ·exact hb3 _ (hlk2.1 hk2)
    ·unfold kL at hi
     rw[if_neg h33,if_neg hc] at hi
     exact h3 i (List.mem_filter.mp hi).1
theorem Er {s:ByteArray}{F:List aw}{r:Nat}{L:List Nat}(hL:∀ p∈L,b7 s p=true)(hb:ce s L (fun _=>false)≠none):dC (-1) s F r L=dC 0 s F r L:=by
 have:=(mw (F:=F) (r:=r) hL hb L.length (Nat.le_refl _)).1
 rw[List.take_length] at this
 rw[←jM]
 exact this
theorem zj {s:ByteArray}{F:List aw}{R:List ay}(hL:∀ r∈R,∀ p∈r.2.1,b7 s p=true)(hb:∀ r∈R,ce s r.2.1 (fun _=>false)≠none):∀ n,n≤R.length→bA (-1) s F R n=bA 0 s F R n
 |0,_=>rfl
 |n+1,hn=>by
  have hlt:n<R.length:=by omega
  have e:R.getD n (0,[],[])=R[n]:=by simp[List.getD,List.getElem?_eq_getElem hlt]
  rw[gi,gi,zj hL hb n (by omega),e,Er (hL _ (List.getElem_mem hlt)) (hb _ (List.getElem_mem hlt))]
end Go.Proofs.YthlhbjnkohinmaaGreat
