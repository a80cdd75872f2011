import Derived.Test.YthlhbjnkohinmabGreatP18
namespace Go.Proofs.YthlhbjnkohinmabGreat
set_option maxRecDepth 100000
set_option maxHeartbeats 8000000
open Go.RowKit
theorem Dv {w:World}{e:TypeId}{base size:Nat}{cs:List Value}(hb:base≤w.heap.size)(hs:cs.length=size):(w.alloc (.cells cs.toArray e)).ownsRow base e size (.slice (some ⟨w.heap.size,0,none⟩) 1 1) 1 cs:=
 ⟨by simp[hs],.inr ⟨w.heap.size,1,cs.toArray,rfl,hb,heap_alloc_new w _,Nat.le_refl 1,by unfold maxLen;omega,by simp[hs],by simp[←hs]⟩⟩
theorem lP (s:ByteArray)(F:List aw)(r:Nat)(L:List Nat)(wt:Int)(a1 a2 fa:Option Addr)(c1 m2 c2 fc B B2:Nat)(w:World)(hLo:∀ p∈L,b9 s p=true)(hp3:bL s L≤3)(hLl:L.length≤400)
  (hrow:w.ownsRow B 205 7 (.slice a1 L.length c1) L.length (dq s L)) (hFl:F.length≤60) (hfr:w.ownsRow B2 114 4 (.slice fa F.length fc) F.length (bE F)) :
  Calls Tryz.prog 82 #[.int .i64 r,.agg #[.int .i64 wt,.slice a1 L.length c1,.slice a2 m2 c2],.slice fa F.length fc] w fun e w'=>∃ v,e=.returned v∧w'.ownsRow w.heap.size 175 24 v (dz 0 s F r L).length (dC wt (dz 0 s F r L))∧w.grownBy w' none:=by
 have HROW:=af hrow
 have HFR:=af hfr
 rw[←jI]
 obtain⟨D,hD⟩:∃ D,D=aG wt (In.start r):=⟨_,rfl⟩
 have hDl:D.length=24:=by rw[hD];rfl
 have HDA:Hid (Value.agg #[.int .i64 r,.int .i64 wt,.int .i64 0,.int .i64 0,.int .i64 0,.int .i64 0,.int .i64 0,.int .i64 0,.int .i64 0,.int .i64 0,.int .i64 0,.int .i64 0,.int .i64 0,.int .i64 0,.int .i64 0,.int .i64 0,.bool false,.bool false,.bool false,.bool false,.int .i64 0,.int .i64 0,.int .i64 0,.int .i64 0]=.agg D.toArray):=af (by rw[hD];simp[aG,In.start,ce,vI,dB,dI])
 have HIZ:Hid ((Tryz.prog.info? 175).map (fun i=>(i.zero,i.size))=some (some (.agg #[.int .i64 0,.int .i64 0,.int .i64 0,.int .i64 0,.int .i64 0,.int .i64 0,.int .i64 0,.int .i64 0,.int .i64 0,.int .i64 0,.int .i64 0,.int .i64 0,.int .i64 0,.int .i64 0,.int .i64 0,.int .i64 0,.bool false,.bool false,.bool false,.bool false,.int .i64 0,.int .i64 0,.int .i64 0,.int .i64 0]),D.length)):=af (by rw[hDl];kernel_rfl)
 have HST:Hid (((w.alloc (.cells #[.int .i64 wt,.slice a1 L.length c1,.slice a2 m2 c2] 168)).alloc (.cells D.toArray 175)).ownsRow w.heap.size 175 24 (.slice (some ⟨w.heap.size+1,0,none⟩) 1 1) (e7 s F r L 0).length (dC wt (e7 s F r L 0))):=af (by
  have:=Dv (w:=w.alloc (.cells #[.int .i64 wt,.slice a1 L.length c1,.slice a2 m2 c2] 168)) (e:=175) (base:=w.heap.size) (cs:=D) (by simp) hDl
  rw[show (w.alloc (.cells #[.int .i64 wt,.slice a1 L.length c1,.slice a2 m2 c2] 168)).heap.size=w.heap.size+1 by simp] at this
  rw[hD] at this ⊢
  simpa [e7,dC] using this)
 have HSG:Hid (w.grownBy ((w.alloc (.cells #[.int .i64 wt,.slice a1 L.length c1,.slice a2 m2 c2] 168)).alloc (.cells D.toArray 175)) none):=af (ab (ab (ag _ _) _) _)
 clear hrow hfr hD
 go_enter Tryz.func82,Tryz.ntmps82
 go_wp2_with (first
  |(refine bp rfl 124 175 (.tmp 13) rfl _ D HDA.out Tryz.underlying124 HIZ.out (by omega) (by omega) ?_))
 go_loopw [7,18] (fun t i wr=>∃ k:Nat,k≤L.length∧i=.int .i64 k∧wr.ownsRow w.heap.size 175 24 t (e7 s F r L k).length (dC wt (e7 s F r L k))∧w.grownBy wr none) (fun _ i _=>L.length - (intOf i).toNat)
 case atStart=>exact⟨0,by omega,rfl,HST.out,HSG.out⟩
 case round=>
  obtain⟨k,hk,rfl,hown,hg⟩:=hrel
  have HG:=af hg
  have HOW:=af hown
  by_cases hlt:k<L.length
  ·have how:=aq HROW.out hg (fun g hg=>by cases hg)
   obtain⟨gf,rfl,_,_,hgl,hcell⟩:=aC how (by omega)
   obtain⟨C,hC⟩:∃ C,C=AN s L[k]:=⟨_,rfl⟩
   have HRG:Hid (wr.rangeAt gf (k*7) C):=af (by rw[hC];exact eY (Ez s) hcell hlt)
   have hCl:C.length=7:=by rw[hC];rfl
   have HIC:Hid ((Tryz.prog.info? 205).map (·.size)=some C.length):=af (by rw[hCl];exact iI)
   have HONA:Hid (C.toArray.all (·.oneCell')=true):=af (all_oneCell_toArray (by rw[hC];exact EU _ _))
   have HBN:Hid ((wr.alloc (.cells C.toArray 205)).heap[wr.heap.size]?=some (.cells C.toArray 205 (0,0))):=af (heap_alloc_new wr _)
   have HRC:Hid ((wr.alloc (.cells C.toArray 205)).rangeAt wr.heap.size 0 C):=af (aF HBN.out rfl)
   have hsz:=hg.size
   have hok:=hLo _ (List.getElem_mem hlt)
   obtain⟨a,m,cc,rfl⟩:=an hown
   have em:=ar hown
   subst em
   by_cases h33:bt s L[k]=33
   ·obtain⟨HV,HK⟩:=zh h33
    obtain⟨t1,t2⟩:=CS hok h33
    have k0:(wr.alloc (.cells C.toArray 205)).cell? ⟨wr.heap.size,0,none⟩=some (.int .i64 2):=bc HBN.out (by rw[hC,AN,HK];rfl)
    have HX:Hid (Calls Tryz.prog 105 #[.slice a (e7 s F r L k).length cc,.agg C.toArray,.slice fa F.length fc] (wr.alloc (.cells C.toArray 205)) fun e w'=>∃ v,e=.returned v∧w'.ownsRow (wr.alloc (.cells C.toArray 205)).heap.size 175 24 v (e7 s F r L (k+1)).length (dC wt (e7 s F r L (k+1)))∧(wr.alloc (.cells C.toArray 205)).grownBy w' none):=af (by
     rw[hC,HV,iL s F r L k hlt]
     unfold kK
     rw[if_pos h33]
     exact tT wt (e7 s F r L k) a cc w.heap.size 2 (bt s (L[k]+1)) 0 (bt s (L[k]+2)) (bt s (L[k]+3)) F fa fc B2 _ (Nat.le_trans (tL hFl r hLo hp3 k hk) (by omega)) (aq HOW.out (ab (ag wr none) _) (fun g hg=>by cases hg)) t1 t2 hFl (aq HFR.out (ae HG.out (ab (ag wr none) _)) (fun g hg=>by cases hg)))
    obtain⟨nl,hnl⟩:∃ nl,nl=(e7 s F r L k).length:=⟨_,rfl⟩
    rw[←hnl] at HX ⊢
    clear hnl hC HV HK hok how hcell hown hg
    go_wp2_with (first
     |(refine wpList_load_mid rfl 205 (.tmp 20) rfl gf (k*7) rfl C _ HRG.out Tryz.underlying205 rfl HIC.out ?_)
     |(refine az rfl 205 (.tmp 9) (.tmp 21) rfl _ C rfl rfl hCl.symm HIC.out HONA.out ?_)
     |(refine wpList_load_mid rfl 205 (.tmp 9) rfl wr.heap.size 0 rfl C _ HRC.out Tryz.underlying205 rfl HIC.out ?_))
    go_at_call 105
    refine HX.out.mono ?_
    rintro e w1 ⟨v,rfl,ho1,hg1⟩
    have HO1:=af (bN ho1 (show w.heap.size≤(wr.alloc (.cells C.toArray 205)).heap.size by simp;omega))
    have HG1:Hid (w.grownBy w1 none):=af (ae HG.out (ae (ab (ag _ _) _) hg1))
    clear ho1 hg1
    go_wp2_with fail
    go_roundw
    case rel=>exact⟨k+1,by omega,by go_num,HO1.out,HG1.out⟩
    case measure=>simp[intOf];omega
   ·by_cases hc:aU (bt s L[k])=true
    ·obtain⟨HV,HK⟩:=zk hc
     obtain⟨t1,t2⟩:=De hok hc
     obtain⟨l1,l2⟩:=DE hFl r hLo hp3 k hlt hc
     have k0:(wr.alloc (.cells C.toArray 205)).cell? ⟨wr.heap.size,0,none⟩=some (.int .i64 1):=bc HBN.out (by rw[hC,AN,HK];rfl)
     have HX:Hid (Calls Tryz.prog 104 #[.slice a (e7 s F r L k).length cc,.agg C.toArray,.slice fa F.length fc] (wr.alloc (.cells C.toArray 205)) fun e w'=>∃ v,e=.returned v∧w'.ownsRow (wr.alloc (.cells C.toArray 205)).heap.size 175 24 v (e7 s F r L (k+1)).length (dC wt (e7 s F r L (k+1)))∧(wr.alloc (.cells C.toArray 205)).grownBy w' none):=af (by
      rw[hC,HV,iL s F r L k hlt]
      unfold kK
      rw[if_neg h33,if_pos hc]
      exact q9 wt (e7 s F r L k) a cc w.heap.size 1 (bt s L[k]) 0 (bt s (L[k]+1)) (bt s (L[k]+2)) F fa fc B2 _ l1 l2 (aq HOW.out (ab (ag wr none) _) (fun g hg=>by cases hg)) t1 t2 hFl (aq HFR.out (ae HG.out (ab (ag wr none) _)) (fun g hg=>by cases hg)))
     obtain⟨nl,hnl⟩:∃ nl,nl=(e7 s F r L k).length:=⟨_,rfl⟩
     rw[←hnl] at HX ⊢
     clear hnl hC HV HK hok how hcell hown hg
     go_wp2_with (first
      |(refine wpList_load_mid rfl 205 (.tmp 20) rfl gf (k*7) rfl C _ HRG.out Tryz.underlying205 rfl HIC.out ?_)
      |(refine az rfl 205 (.tmp 9) (.tmp 21) rfl _ C rfl rfl hCl.symm HIC.out HONA.out ?_)
      |(refine wpList_load_mid rfl 205 (.tmp 9) rfl wr.heap.size 0 rfl C _ HRC.out Tryz.underlying205 rfl HIC.out ?_))
     go_at_call 104
     refine HX.out.mono ?_
     rintro e w1 ⟨v,rfl,ho1,hg1⟩
     have HO1:=af (bN ho1 (show w.heap.size≤(wr.alloc (.cells C.toArray 205)).heap.size by simp;omega))
     have HG1:Hid (w.grownBy w1 none):=af (ae HG.out (ae (ab (ag _ _) _) hg1))
     clear ho1 hg1
     go_wp2_with fail
     go_roundw
     case rel=>exact⟨k+1,by omega,by go_num,HO1.out,HG1.out⟩
     case measure=>simp[intOf];omega
    ·have hcf:aU (bt s L[k])=false:=by simpa using hc
     obtain⟨HV,HK⟩:=yX h33 hcf
     obtain⟨t1,t2,t3⟩:=uu hok h33 hcf
     have k0:(wr.alloc (.cells C.toArray 205)).cell? ⟨wr.heap.size,0,none⟩=some (.int .i64 3):=bc HBN.out (by rw[hC,AN,HK];rfl)
     have HX:Hid (Calls Tryz.prog 106 #[.slice a (e7 s F r L k).length cc,.agg C.toArray] (wr.alloc (.cells C.toArray 205)) fun e w'=>∃ v,e=.returned v∧w'.ownsRow (wr.alloc (.cells C.toArray 205)).heap.size 175 24 v (e7 s F r L (k+1)).length (dC wt (e7 s F r L (k+1)))∧(wr.alloc (.cells C.toArray 205)).grownBy w' none):=af (by
      rw[hC,HV,iL s F r L k hlt]
      unfold kK
      rw[if_neg h33,if_neg hc]
      exact tC wt (e7 s F r L k) a cc w.heap.size 3 0 (bt s (L[k]+1)) (bt s L[k]) (bt s (L[k]+2)) _ (Nat.le_trans (tL hFl r hLo hp3 k hk) (by omega)) (aq HOW.out (ab (ag wr none) _) (fun g hg=>by cases hg)) t2 t1 t3)
     obtain⟨nl,hnl⟩:∃ nl,nl=(e7 s F r L k).length:=⟨_,rfl⟩
     rw[←hnl] at HX ⊢
     clear hnl hC HV HK hok how hcell hown hg
     go_wp2_with (first
      |(refine wpList_load_mid rfl 205 (.tmp 20) rfl gf (k*7) rfl C _ HRG.out Tryz.underlying205 rfl HIC.out ?_)
      |(refine az rfl 205 (.tmp 9) (.tmp 21) rfl _ C rfl rfl hCl.symm HIC.out HONA.out ?_)
      |(refine wpList_load_mid rfl 205 (.tmp 9) rfl wr.heap.size 0 rfl C _ HRC.out Tryz.underlying205 rfl HIC.out ?_))
     go_at_call 106
     refine HX.out.mono ?_
     rintro e w1 ⟨v,rfl,ho1,hg1⟩
     have HO1:=af (bN ho1 (show w.heap.size≤(wr.alloc (.cells C.toArray 205)).heap.size by simp;omega))
     have HG1:Hid (w.grownBy w1 none):=af (ae HG.out (ae (ab (ag _ _) _) hg1))
     clear ho1 hg1
     go_wp2_with fail
     go_roundw
     case rel=>exact⟨k+1,by omega,by go_num,HO1.out,HG1.out⟩
     case measure=>simp[intOf];omega
  ·have hkl:k=L.length:=by omega
   subst hkl
   clear hg hown
   go_wp2_with fail
   go_ret
   exact⟨_,rfl,HOW.out,HG.out⟩
end Go.Proofs.YthlhbjnkohinmabGreat
