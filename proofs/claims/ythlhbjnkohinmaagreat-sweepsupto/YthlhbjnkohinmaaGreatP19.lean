import Derived.Test.YthlhbjnkohinmaaGreatP18
namespace Go.Proofs.YthlhbjnkohinmaaGreat
set_option maxRecDepth 100000
set_option maxHeartbeats 8000000
open Go.RowKit
theorem CT {w:World}{e:TypeId}{base size:Nat}{cs:List Value}(hb:base≤w.heap.size)(hs:cs.length=size):(w.alloc (.cells cs.toArray e)).ownsRow base e size (.slice (some ⟨w.heap.size,0,none⟩) 1 1) 1 cs:=
 ⟨by simp[hs],.inr ⟨w.heap.size,1,cs.toArray,rfl,hb,heap_alloc_new w _,Nat.le_refl 1,by unfold maxLen;omega,by simp[hs],by simp[←hs]⟩⟩
theorem lK (s:ByteArray)(F:List aw)(r:Nat)(L:List Nat)(wt:Int)(a1 a2 fa:Option Addr)(c1 m2 c2 fc B B2:Nat)(w:World)(hLo:∀ p∈L,b7 s p=true)(hp3:bL s L≤3)(hLl:L.length≤400)
  (hrow:w.ownsRow B 206 7 (.slice a1 L.length c1) L.length (dp s L)) (hFl:F.length≤60) (hfr:w.ownsRow B2 114 4 (.slice fa F.length fc) F.length (bE F)) :
  Calls Tryz.prog 88 #[.int .i64 r,.agg #[.int .i64 wt,.slice a1 L.length c1,.slice a2 m2 c2],.slice fa F.length fc] w fun e w'=>∃ v,e=.returned v∧w'.ownsRow w.heap.size 176 24 v (dy 0 s F r L).length (dA wt (dy 0 s F r L))∧w.grownBy w' none:=by
 have HROW:=af hrow
 have HFR:=af hfr
 rw[←jI]
 obtain⟨D,hD⟩:∃ D,D=aG wt (In.start r):=⟨_,rfl⟩
 have hDl:D.length=24:=by rw[hD];rfl
 have HDA:Hid (Value.agg #[.int .i64 r,.int .i64 wt,.int .i64 0,.int .i64 0,.int .i64 0,.int .i64 0,.int .i64 0,.int .i64 0,.int .i64 0,.int .i64 0,.int .i64 0,.int .i64 0,.int .i64 0,.int .i64 0,.int .i64 0,.int .i64 0,.bool false,.bool false,.bool false,.bool false,.int .i64 0,.int .i64 0,.int .i64 0,.int .i64 0]=.agg D.toArray):=af (by rw[hD];simp[aG,In.start,b8,uJ,dB,dI])
 have HIZ:Hid ((Tryz.prog.info? 176).map (fun i=>(i.zero,i.size))=some (some (.agg #[.int .i64 0,.int .i64 0,.int .i64 0,.int .i64 0,.int .i64 0,.int .i64 0,.int .i64 0,.int .i64 0,.int .i64 0,.int .i64 0,.int .i64 0,.int .i64 0,.int .i64 0,.int .i64 0,.int .i64 0,.int .i64 0,.bool false,.bool false,.bool false,.bool false,.int .i64 0,.int .i64 0,.int .i64 0,.int .i64 0]),D.length)):=af (by rw[hDl];kernel_rfl)
 have HST:Hid (((w.alloc (.cells #[.int .i64 wt,.slice a1 L.length c1,.slice a2 m2 c2] 169)).alloc (.cells D.toArray 176)).ownsRow w.heap.size 176 24 (.slice (some ⟨w.heap.size+1,0,none⟩) 1 1) (e7 s F r L 0).length (dA wt (e7 s F r L 0))):=af (by
  have:=CT (w:=w.alloc (.cells #[.int .i64 wt,.slice a1 L.length c1,.slice a2 m2 c2] 169)) (e:=176) (base:=w.heap.size) (cs:=D) (by simp) hDl
  rw[show (w.alloc (.cells #[.int .i64 wt,.slice a1 L.length c1,.slice a2 m2 c2] 169)).heap.size=w.heap.size+1 by simp] at this
  rw[hD] at this ⊢
  simpa [e7,dA] using this)
 have HSG:Hid (w.grownBy ((w.alloc (.cells #[.int .i64 wt,.slice a1 L.length c1,.slice a2 m2 c2] 169)).alloc (.cells D.toArray 176)) none):=af (ab (ab (ag _ _) _) _)
 clear hrow hfr hD
 go_enter Tryz.func88,Tryz.ntmps88
 go_wp2_with (first
  |(refine bp rfl 125 176 (.tmp 13) rfl _ D HDA.out Tryz.underlying125 HIZ.out (by omega) (by omega) ?_))
 go_loopw [7,18] (fun t i wr=>∃ k:Nat,k≤L.length∧i=.int .i64 k∧wr.ownsRow w.heap.size 176 24 t (e7 s F r L k).length (dA wt (e7 s F r L k))∧w.grownBy wr none) (fun _ i _=>L.length - (intOf i).toNat)
 case atStart=>exact⟨0,by omega,rfl,HST.out,HSG.out⟩
 case round=>
  obtain⟨k,hk,rfl,hown,hg⟩:=hrel
  have HG:=af hg
  have HOW:=af hown
  by_cases hlt:k<L.length
  ·have how:=aq HROW.out hg (fun g hg=>by cases hg)
   obtain⟨gf,rfl,_,_,hgl,hcell⟩:=aC how (by omega)
   obtain⟨C,hC⟩:∃ C,C=zn s L[k]:=⟨_,rfl⟩
   have HRG:Hid (wr.rangeAt gf (k*7) C):=af (by rw[hC];exact eU (EA s) hcell hlt)
   have hCl:C.length=7:=by rw[hC];rfl
   have HIC:Hid ((Tryz.prog.info? 206).map (·.size)=some C.length):=af (by rw[hCl];exact iJ)
   have HONA:Hid (C.toArray.all (·.oneCell')=true):=af (all_oneCell_toArray (by rw[hC];exact Eb _ _))
   have HBN:Hid ((wr.alloc (.cells C.toArray 206)).heap[wr.heap.size]?=some (.cells C.toArray 206 (0,0))):=af (heap_alloc_new wr _)
   have HRC:Hid ((wr.alloc (.cells C.toArray 206)).rangeAt wr.heap.size 0 C):=af (aF HBN.out rfl)
   have hsz:=hg.size
   have hok:=hLo _ (List.getElem_mem hlt)
   obtain⟨a,m,cc,rfl⟩:=an hown
   have em:=au hown
   subst em
   by_cases h33:bt s L[k]=33
   ·obtain⟨HV,HK⟩:=yU h33
    obtain⟨t1,t2⟩:=DB hok h33
    have k0:(wr.alloc (.cells C.toArray 206)).cell? ⟨wr.heap.size,0,none⟩=some (.int .i64 2):=ba HBN.out (by rw[hC,zn,HK];rfl)
    have HX:Hid (Calls Tryz.prog 111 #[.slice a (e7 s F r L k).length cc,.agg C.toArray,.slice fa F.length fc] (wr.alloc (.cells C.toArray 206)) fun e w'=>∃ v,e=.returned v∧w'.ownsRow (wr.alloc (.cells C.toArray 206)).heap.size 176 24 v (e7 s F r L (k+1)).length (dA wt (e7 s F r L (k+1)))∧(wr.alloc (.cells C.toArray 206)).grownBy w' none):=af (by
     rw[hC,HV,iK s F r L k hlt]
     unfold kJ
     rw[if_pos h33]
     exact tf wt (e7 s F r L k) a cc w.heap.size 2 (bt s (L[k]+1)) 0 (bt s (L[k]+2)) (bt s (L[k]+3)) F fa fc B2 _ (Nat.le_trans (tO hFl r hLo hp3 k hk) (by omega)) (aq HOW.out (ab (ag wr none) _) (fun g hg=>by cases hg)) t1 t2 hFl (aq HFR.out (ae HG.out (ab (ag wr none) _)) (fun g hg=>by cases hg)))
    obtain⟨nl,hnl⟩:∃ nl,nl=(e7 s F r L k).length:=⟨_,rfl⟩
    rw[←hnl] at HX ⊢
    clear hnl hC HV HK hok how hcell hown hg
    go_wp2_with (first
     |(refine wpList_load_mid rfl 206 (.tmp 20) rfl gf (k*7) rfl C _ HRG.out Tryz.underlying206 rfl HIC.out ?_)
     |(refine az rfl 206 (.tmp 9) (.tmp 21) rfl _ C rfl rfl hCl.symm HIC.out HONA.out ?_)
     |(refine wpList_load_mid rfl 206 (.tmp 9) rfl wr.heap.size 0 rfl C _ HRC.out Tryz.underlying206 rfl HIC.out ?_))
    go_at_call 111
    refine HX.out.mono ?_
    rintro e w1 ⟨v,rfl,ho1,hg1⟩
    have HO1:=af (bN ho1 (show w.heap.size≤(wr.alloc (.cells C.toArray 206)).heap.size by simp;omega))
    have HG1:Hid (w.grownBy w1 none):=af (ae HG.out (ae (ab (ag _ _) _) hg1))
    clear ho1 hg1
    go_wp2_with fail
    go_roundw
    case rel=>exact⟨k+1,by omega,by go_num,HO1.out,HG1.out⟩
    case measure=>simp[intOf];omega
   ·by_cases hc:aR (bt s L[k])=true
    ·obtain⟨HV,HK⟩:=zc hc
     obtain⟨t1,t2⟩:=CI hok hc
     obtain⟨l1,l2⟩:=Ch hFl r hLo hp3 k hlt hc
     have k0:(wr.alloc (.cells C.toArray 206)).cell? ⟨wr.heap.size,0,none⟩=some (.int .i64 1):=ba HBN.out (by rw[hC,zn,HK];rfl)
     have HX:Hid (Calls Tryz.prog 110 #[.slice a (e7 s F r L k).length cc,.agg C.toArray,.slice fa F.length fc] (wr.alloc (.cells C.toArray 206)) fun e w'=>∃ v,e=.returned v∧w'.ownsRow (wr.alloc (.cells C.toArray 206)).heap.size 176 24 v (e7 s F r L (k+1)).length (dA wt (e7 s F r L (k+1)))∧(wr.alloc (.cells C.toArray 206)).grownBy w' none):=af (by
      rw[hC,HV,iK s F r L k hlt]
      unfold kJ
      rw[if_neg h33,if_pos hc]
      exact re wt (e7 s F r L k) a cc w.heap.size 1 (bt s L[k]) 0 (bt s (L[k]+1)) (bt s (L[k]+2)) F fa fc B2 _ l1 l2 (aq HOW.out (ab (ag wr none) _) (fun g hg=>by cases hg)) t1 t2 hFl (aq HFR.out (ae HG.out (ab (ag wr none) _)) (fun g hg=>by cases hg)))
     obtain⟨nl,hnl⟩:∃ nl,nl=(e7 s F r L k).length:=⟨_,rfl⟩
     rw[←hnl] at HX ⊢
     clear hnl hC HV HK hok how hcell hown hg
     go_wp2_with (first
      |(refine wpList_load_mid rfl 206 (.tmp 20) rfl gf (k*7) rfl C _ HRG.out Tryz.underlying206 rfl HIC.out ?_)
      |(refine az rfl 206 (.tmp 9) (.tmp 21) rfl _ C rfl rfl hCl.symm HIC.out HONA.out ?_)
      |(refine wpList_load_mid rfl 206 (.tmp 9) rfl wr.heap.size 0 rfl C _ HRC.out Tryz.underlying206 rfl HIC.out ?_))
     go_at_call 110
     refine HX.out.mono ?_
     rintro e w1 ⟨v,rfl,ho1,hg1⟩
     have HO1:=af (bN ho1 (show w.heap.size≤(wr.alloc (.cells C.toArray 206)).heap.size by simp;omega))
     have HG1:Hid (w.grownBy w1 none):=af (ae HG.out (ae (ab (ag _ _) _) hg1))
     clear ho1 hg1
     go_wp2_with fail
     go_roundw
     case rel=>exact⟨k+1,by omega,by go_num,HO1.out,HG1.out⟩
     case measure=>simp[intOf];omega
    ·have hcf:aR (bt s L[k])=false:=by simpa using hc
     obtain⟨HV,HK⟩:=yK h33 hcf
     obtain⟨t1,t2,t3⟩:=uy hok h33 hcf
     have k0:(wr.alloc (.cells C.toArray 206)).cell? ⟨wr.heap.size,0,none⟩=some (.int .i64 3):=ba HBN.out (by rw[hC,zn,HK];rfl)
     have HX:Hid (Calls Tryz.prog 112 #[.slice a (e7 s F r L k).length cc,.agg C.toArray] (wr.alloc (.cells C.toArray 206)) fun e w'=>∃ v,e=.returned v∧w'.ownsRow (wr.alloc (.cells C.toArray 206)).heap.size 176 24 v (e7 s F r L (k+1)).length (dA wt (e7 s F r L (k+1)))∧(wr.alloc (.cells C.toArray 206)).grownBy w' none):=af (by
      rw[hC,HV,iK s F r L k hlt]
      unfold kJ
      rw[if_neg h33,if_neg hc]
      exact tg wt (e7 s F r L k) a cc w.heap.size 3 0 (bt s (L[k]+1)) (bt s L[k]) (bt s (L[k]+2)) _ (Nat.le_trans (tO hFl r hLo hp3 k hk) (by omega)) (aq HOW.out (ab (ag wr none) _) (fun g hg=>by cases hg)) t2 t1 t3)
     obtain⟨nl,hnl⟩:∃ nl,nl=(e7 s F r L k).length:=⟨_,rfl⟩
     rw[←hnl] at HX ⊢
     clear hnl hC HV HK hok how hcell hown hg
     go_wp2_with (first
      |(refine wpList_load_mid rfl 206 (.tmp 20) rfl gf (k*7) rfl C _ HRG.out Tryz.underlying206 rfl HIC.out ?_)
      |(refine az rfl 206 (.tmp 9) (.tmp 21) rfl _ C rfl rfl hCl.symm HIC.out HONA.out ?_)
      |(refine wpList_load_mid rfl 206 (.tmp 9) rfl wr.heap.size 0 rfl C _ HRC.out Tryz.underlying206 rfl HIC.out ?_))
     go_at_call 112
     refine HX.out.mono ?_
     rintro e w1 ⟨v,rfl,ho1,hg1⟩
     have HO1:=af (bN ho1 (show w.heap.size≤(wr.alloc (.cells C.toArray 206)).heap.size by simp;omega))
     have HG1:Hid (w.grownBy w1 none):=af (ae HG.out (ae (ab (ag _ _) _) hg1))
     clear ho1 hg1
     go_wp2_with fail
     go_roundw
     case rel=>exact⟨k+1,by omega,by go_num,HO1.out,HG1.out⟩
     case measure=>simp[intOf];omega
  ·have hkl:k=L.length:=by omega
   subst hkl
   clear hg hown
   go_wp2_with fail
   go_ret
   exact⟨_,rfl,HOW.out,HG.out⟩
end Go.Proofs.YthlhbjnkohinmaaGreat
