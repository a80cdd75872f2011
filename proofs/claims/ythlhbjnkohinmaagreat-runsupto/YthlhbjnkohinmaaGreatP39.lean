import Derived.Test.YthlhbjnkohinmaaGreatP38
namespace Go.Proofs.YthlhbjnkohinmaaGreat
set_option maxRecDepth 100000
set_option maxHeartbeats 8000000
open Go.RowKit
def yD (Z:Array Value):Prop:=∀ j,j<9000→Z[j*2]?=some (.bool false)∧Z[j*2+1]?=some (.int .i64 0)
theorem Tryz.infoM:(Tryz.prog.info? 211).map (fun i=>(i.zero,i.size,i.bytes))=some (some (.agg #[.bool false,.int .i64 0]),2,16):=by kernel_rfl
theorem xt (w:World):∃ Z,yD Z∧(Instr.makeSlice 78 (.int .i64 9000) (.int .i64 9000)).run Tryz.prog w=.ok (.slice (some ⟨w.heap.size,0,none⟩) 9000 9000) (w.alloc (.cells Z 211)):=by
 obtain⟨i0,hi0,hz0,hz1,hz2⟩:=info_parts Tryz.infoM
 have:=run_make (P:=Tryz.prog) w 78 211 i0 (.agg #[.bool false,.int .i64 0]) Tryz.underlying78 hi0 hz0 .i64 .i64 9000 9000 (by omega) (by omega) (by rw[hz2];omega) (by omega)
 refine⟨_,?_,this⟩
 intro j hj
 rw[hz1]
 unfold madeCells
 have h1:j*2<(9000:Int).toNat*2:=by simp;omega
 have h2:j*2+1<(9000:Int).toNat*2:=by simp;omega
 refine⟨?_,?_⟩
 ·rw[Array.getElem?_map,Array.getElem?_range,if_pos h1]
  have e:j*2 % 2=0:=by omega
  simp[Value.cells,e]
 ·rw[Array.getElem?_map,Array.getElem?_range,if_pos h2]
  have e:(j*2+1) % 2=1:=by omega
  simp[Value.cells,e]
theorem Bj (wt:Int)(i:In)(x o N:Nat)(w:World)(hr:i.rule<9)(hl:i.facts.length≤3)(hm:w.cell? ⟨x,o,none⟩=some (.slice none 0 0))(hN:N=9000)(hz:w.frozen? ⟨x,o,none⟩=false):
  Calls Tryz.prog 119 #[.pointer (some ⟨x,o,none⟩),.agg (aG wt i).toArray] w fun e w'=>e=.returned (.tuple #[])∧∃ L Z w1 m,yD Z∧(((w.setCell ⟨x,o,none⟩ (.slice (some ⟨w.heap.size+1,0,none⟩) N N)).alloc (.cells L 176)).alloc (.cells Z 211)).grownBy w1 none∧w'=((w1.setCell ⟨w.heap.size+1,bW i*2,none⟩ (.bool true)).setCell ⟨w.heap.size+1,bW i*2+1,none⟩ (.int .i64 (b9 i.facts))).drewN m:=by
 have HP:Hid (∀ W,Calls Tryz.prog 113 #[.agg (aG wt i).toArray] W fun e w'=>e=.returned (.tuple #[.int .i64 (kG i),.bool true])∧W.grownBy w' none):=af (fun W=>ks wt i W hr hl)
 have hp:=o9 hr hl
 have hpn:kG i=(bW i:Int):=by unfold bW;omega
 obtain⟨L,hL⟩:∃ L,L=aG wt i:=⟨_,rfl⟩
 have hLl:L.length=24:=by rw[hL];rfl
 obtain⟨lt,hlt⟩:∃ lt,lt=b9 i.facts:=⟨_,rfl⟩
 rw[hpn] at HP
 rw[←hL] at HP ⊢
 rw[←hlt]
 obtain⟨p,hpp⟩:∃ p,p=bW i:=⟨_,rfl⟩
 have hp9:p≤8999:=by omega
 rw[←hpp] at HP ⊢
 have hxl:x<w.heap.size:=World.block_lt_of_cell? w _ hm
 obtain⟨Z,hZ,hmk⟩:=xt (w.alloc (.cells L.toArray 176))
 have hsz1:(w.alloc (.cells L.toArray 176)).heap.size=w.heap.size+1:=by simp
 rw[hsz1] at hmk
 have hmkN:(Instr.makeSlice 78 (.int .i64 9000) (.int .i64 9000)).run Tryz.prog (w.alloc (.cells L.toArray 176))=.ok (.slice (some ⟨w.heap.size+1,0,none⟩) N N) ((w.alloc (.cells L.toArray 176)).alloc (.cells Z 211)):=by rw[hN];exact hmk
 have HMK:=af hmkN
 have HZ:=af hZ
 obtain⟨W3,hW3⟩:∃ W3,W3=((w.setCell ⟨x,o,none⟩ (.slice (some ⟨w.heap.size+1,0,none⟩) N N)).alloc (.cells L.toArray 176)).alloc (.cells Z 211):=⟨_,rfl⟩
 have ssz:(w.setCell ⟨x,o,none⟩ (.slice (some ⟨w.heap.size+1,0,none⟩) N N)).heap.size=w.heap.size:=by simp[World.setCell]
 have b0:W3.heap[w.heap.size]?=some (.cells L.toArray 176 (0,0)):=by
  rw[hW3,Below.heap_alloc _ _ _ (by simp[ssz])]
  exact bm ssz.symm
 have b1:W3.heap[w.heap.size+1]?=some (.cells Z 211 (0,0)):=by
  rw[hW3]
  exact bm (by simp[ssz])
 have cx:W3.cell? ⟨x,o,none⟩=some (.slice (some ⟨w.heap.size+1,0,none⟩) N N):=by
  rw[hW3,World.cell?_alloc_lt _ _ _ (by simp[ssz];omega),World.cell?_alloc_lt _ _ _ (by simp[ssz];omega)]
  exact World.cell?_setCell_same _ _ _ hm
 have HIL:Hid ((Tryz.prog.info? 176).map (·.size)=some L.length):=af (by rw[hLl];exact bE)
 have HRL:Hid (W3.rangeAt w.heap.size 0 L):=af (aF b0 rfl)
 have HL2:Hid (L[2]?=some (.int .i64 lt)):=af (by rw[hL,hlt];rfl)
 have HB0:=af b0
 have HB1:=af b1
 have HCX:=af cx
 have HW3:Hid (((w.setCell ⟨x,o,none⟩ (.slice (some ⟨w.heap.size+1,0,none⟩) N N)).alloc (.cells L.toArray 176)).alloc (.cells Z 211)=W3):=af hW3.symm
 have HP9:Hid (p<9000):=af (by omega)
 have p0:(0:Int)≤(p:Int):=by omega
 have p9:(p:Int)<(N:Int):=by omega
 have hxz:x≠w.heap.size:=by omega
 have hxz1:x≠w.heap.size+1:=by omega
 have hxz2:=hxz1.symm
 clear hL hlt hpp hpn hp hN hp9 hZ hmk hmkN b0 b1 cx hW3 ssz hsz1
 go_enter Tryz.func119,Tryz.ntmps119
 go_wp2_with (first
  |(refine oY rfl 78 _ _ rfl _ _ _ _ rfl rfl HMK.out ?_)
  |(rw[HW3.out];refine wpList_load_mid rfl 176 (.tmp 3) rfl w.heap.size 0 rfl L _ HRL.out Tryz.underlying176 rfl HIL.out ?_))
 go_at_call 113
 refine (HP.out _).mono ?_
 rintro e w1 ⟨rfl,hg1⟩
 have HG1:=af hg1
 have hm1:=am hg1 HCX.out
 have bb1:=(hg1.block _ (lt_of_block HB1.out) (by simp)).trans HB1.out
 have hb1:w1.cell? ⟨w.heap.size+1,p*2,none⟩=some (.bool false):=by rw[cell_of_row _ _ _ _ _ _ bb1];exact (HZ.out p HP9.out).1
 have ht1:w1.cell? ⟨w.heap.size+1,p*2+1,none⟩=some (.int .i64 0):=by rw[cell_of_row _ _ _ _ _ _ bb1];exact (HZ.out p HP9.out).2
 have hl1:w1.cell? ⟨w.heap.size,2,none⟩=some (.int .i64 lt):=bd ((hg1.block _ (lt_of_block HB0.out) (by simp)).trans HB0.out) HL2.out
 have hz1:∀ j,w1.frozen? ⟨w.heap.size+1,j,none⟩=false:=ai bb1
 clear hg1 HP bb1
 go_wp2_with fail
 go_region
 all_goals go_wp2_with fail
 all_goals go_returns
 all_goals exact⟨rfl,L.toArray,Z,w1,1,HZ.out,by rw[HW3.out];exact HG1.out,rfl⟩
def jH (mks:Option Nat)(fm:Nat→Option Int)(w:World):Prop:=match mks with
 |none=>∀ p,p<9000→fm p=none
 |some g=>∃ Z,w.heap[g]?=some (.cells Z 211 (0,0))∧∀ p,p<9000→Z[p*2]?=some (.bool (fm p).isSome)∧Z[p*2+1]?=some (.int .i64 ((fm p).getD 0))
theorem jH.grown {mks:Option Nat}{fm:Nat→Option Int}{w w':World}(h:jH mks fm w)(hg:w.grownBy w' none):jH mks fm w':=by
 cases mks with
 |none=>exact h
 |some g=>
  obtain⟨Z,h1,h2⟩:=h
  exact⟨Z,(hg.block g (lt_of_block h1) (by simp)).trans h1,h2⟩
def wA (fm:Nat→Option Int)(i:In):Bool:=(fm (bW i)).isSome&&((fm (bW i)).getD 0==b9 i.facts)
theorem za {i:In}(hr:i.rule<9)(hl:i.facts.length≤3):bW i<9000:=by
 have:=o9 hr hl
 unfold bW
 omega
theorem uy (wt:Int)(i:In)(x o:Nat)(mks:Option Nat)(fm:Nat→Option Int)(w:World)(hr:i.rule<9)(hl:i.facts.length≤3)(hm:w.cell? ⟨x,o,none⟩=some (Fn mks))(hM:jH mks fm w):
  Calls Tryz.prog 89 #[.pointer (some ⟨x,o,none⟩),.agg (aG wt i).toArray] w fun e w'=>e=.returned (.bool (wA fm i))∧w.grownBy w' none:=by
 have hp:=za hr hl
 cases mks with
 |none=>
  have e:wA fm i=false:=by
   unfold wA
   rw[hM _ hp]
   rfl
  rw[e]
  exact BN wt i x o w hr hl hm
 |some g=>
  obtain⟨Z,h1,h2⟩:=hM
  obtain⟨a1,a2⟩:=h2 _ hp
  exact Ad wt i x o g 9000 _ _ w hr hl hm rfl (by rw[cell_of_row _ _ _ _ _ _ h1];exact a1) (by rw[cell_of_row _ _ _ _ _ _ h1];exact a2)
theorem xu (b o:Nat)(S:aJ)(f:Nat→Int×Option Int)(sl:List Value)(s:ByteArray)(R:List ay)(ra:Option Addr)(rc B:Nat)(fm:Nat→Option Int)(w:World)(h:cJ w b o S)(hsc:jg sl.toArray 60 f)(hM:jH S.mks fm w)
  (hR:∀ r∈R,l7 s r) (hR9:R.length≤9) (hrow:bS w B s (.slice ra R.length rc) R) :
  Calls Tryz.prog 95 #[.pointer (some ⟨b,o,none⟩),.slice ra R.length rc,.agg sl.toArray] w fun e w'=>e=.returned (.tuple #[.agg (kF (ep s R) (gK (ep s R) (jx s (dk S f 60) R (wA fm) R.length))).toArray,.bool (gK (ep s R) (jx s (dk S f 60) R (wA fm) R.length)).isSome])∧w.grownBy w' none:=by
 have hFl:=iC S f 60
 have hmk:=h.mks
 have hbl:b<w.heap.size:=World.block_lt_of_cell? w _ h.num
 have hsl:sl.length=180:=by have:=hsc.size;simpa using this
 have HSE:Hid (∀ W,w.grownBy W none→Calls Tryz.prog 83 #[.pointer (some ⟨b,o,none⟩),.agg sl.toArray] W fun e w'=>∃ v,e=.returned v∧w'.ownsRow W.heap.size 114 4 v (dk S f 60).length (bG (dk S f 60))∧W.grownBy w' none):=af (fun W hW=>by
  refine r9 b o S f sl.toArray W ?_ hsc
  exact⟨am hW h.num,am hW h.snap,am hW h.cnt,fun c hc=>am hW (h.made c hc),fun c hc=>am hW (h.filled c hc),fun c hc=>am hW (h.val c hc),fun c hc=>am hW (h.tm c hc),am hW h.mks,h.ok⟩)
 obtain⟨F,hF⟩:∃ F,F=dk S f 60:=⟨_,rfl⟩
 rw[←hF] at HSE hFl ⊢
 have HFI:Hid (∀ (W:World) (fa:Option Addr) (fc B2:Nat),w.grownBy W none→W.ownsRow B2 114 4 (.slice fa F.length fc) F.length (bG F)→Calls Tryz.prog 117 #[.slice ra R.length rc,.slice fa F.length fc,.pointer (some ⟨b,o+243,none⟩)] W fun e w'=>e=.returned (.tuple #[.agg (kF (ep s R) (gK (ep s R) (jx s F R (wA fm) R.length))).toArray,.bool (gK (ep s R) (jx s F R (wA fm) R.length)).isSome])∧W.grownBy w' none):=af (fun W fa fc B2 hW hfr=>by
  obtain⟨xs,r1,r2⟩:=hrow
  refine xg s F R ra fa rc fc B B2 b (o+243) (wA fm) W hR hR9 ⟨xs,aq r1 hW (fun g hg=>by cases hg),fw hW (fun g hg=>by cases hg) R xs r2⟩ hFl hfr (af (fun k hk i W2 hi hW2=>?_))
  obtain⟨a1,a2⟩:=iL hFl k (hR _ (List.getElem_mem hk)) i hi
  have hg2:=ae hW hW2
  exact uy _ i b (o+243) S.mks fm W2 (by omega) a1 (am hg2 hmk) (hM.grown hg2))
 obtain⟨bi,hbi⟩:∃ bi,bi=gK (ep s R) (jx s F R (wA fm) R.length):=⟨_,rfl⟩
 obtain⟨M,hMM⟩:∃ M,M=kF (ep s R) bi:=⟨_,rfl⟩
 rw[←hbi,←hMM] at HFI ⊢
 have hMl:M.length=24:=by rw[hMM];exact kN _ _
 have HIMs:Hid ((Tryz.prog.info? 176).map (·.size)=some M.toArray.size):=af (by rw[List.size_toArray,hMl];exact bE)
 have HOM:Hid (M.toArray.all (·.oneCell')=true):=af (all_oneCell_toArray (by rw[hMM];exact qa _ _))
 obtain⟨fo,hfo⟩:∃ fo,fo=bi.isSome:=⟨_,rfl⟩
 rw[←hfo] at HFI ⊢
 have HISL:Hid ((Tryz.prog.info? 139).map (·.size)=some sl.length):=af (by rw[hsl];kernel_rfl)
 have HW2:Hid (w.grownBy ((w.alloc (.cells sl.toArray 139)).alloc (.cells #[.int .i64 0,.int .i64 0,.int .i64 0,.int .i64 0,.int .i64 0,.int .i64 0,.int .i64 0,.int .i64 0,.int .i64 0,.int .i64 0,.int .i64 0,.int .i64 0,.int .i64 0,.int .i64 0,.int .i64 0,.int .i64 0,.bool false,.bool false,.bool false,.bool false,.int .i64 0,.int .i64 0,.int .i64 0,.int .i64 0] 176)) none):=af (ab (ab (ag _ _) _) _)
 have HRS:Hid (((w.alloc (.cells sl.toArray 139)).alloc (.cells #[.int .i64 0,.int .i64 0,.int .i64 0,.int .i64 0,.int .i64 0,.int .i64 0,.int .i64 0,.int .i64 0,.int .i64 0,.int .i64 0,.int .i64 0,.int .i64 0,.int .i64 0,.int .i64 0,.int .i64 0,.int .i64 0,.bool false,.bool false,.bool false,.bool false,.int .i64 0,.int .i64 0,.int .i64 0,.int .i64 0] 176)).rangeAt w.heap.size 0 sl):=af (aF ((Below.heap_alloc _ _ _ (by simp)).trans (heap_alloc_new w _)) rfl)
 have HBR:Hid (((w.alloc (.cells sl.toArray 139)).alloc (.cells #[.int .i64 0,.int .i64 0,.int .i64 0,.int .i64 0,.int .i64 0,.int .i64 0,.int .i64 0,.int .i64 0,.int .i64 0,.int .i64 0,.int .i64 0,.int .i64 0,.int .i64 0,.int .i64 0,.int .i64 0,.int .i64 0,.bool false,.bool false,.bool false,.bool false,.int .i64 0,.int .i64 0,.int .i64 0,.int .i64 0] 176)).heap[w.heap.size+1]?=some (.cells ([.int .i64 0,.int .i64 0,.int .i64 0,.int .i64 0,.int .i64 0,.int .i64 0,.int .i64 0,.int .i64 0,.int .i64 0,.int .i64 0,.int .i64 0,.int .i64 0,.int .i64 0,.int .i64 0,.int .i64 0,.int .i64 0,.bool false,.bool false,.bool false,.bool false,.int .i64 0,.int .i64 0,.int .i64 0,.int .i64 0]:List Value).toArray 176 (0,0))):=af (bm (by simp))
 clear h hsc hM hR hrow hF hbi hMM hfo hmk
 go_enter Tryz.func95,Tryz.ntmps95
 go_wp2_with (first
  |(refine wpList_load_mid rfl 139 (.tmp 5) rfl w.heap.size 0 rfl sl _ HRS.out Tryz.underlying139 rfl HISL.out ?_))
 go_at_call 83
 refine (HSE.out _ HW2.out).mono ?_
 rintro e w1 ⟨v,rfl,hown,hg1⟩
 obtain⟨fa,fmm,fc,rfl⟩:=an hown
 have em:=ar hown
 subst em
 have HG1:=af (ae HW2.out hg1)
 have HOW:=af hown
 have hbr1:=(hg1.block _ (lt_of_block HBR.out) (by simp)).trans HBR.out
 have HBR1:=af hbr1
 clear hown hg1 hbr1 HSE
 go_wp2_with fail
 go_at_call 117
 refine (HFI.out _ _ _ _ HG1.out HOW.out).mono ?_
 rintro e w2 ⟨rfl,hg2⟩
 have hbr2:=(hg2.block _ (lt_of_block HBR1.out) (by simp)).trans HBR1.out
 have HTH:Hid (w2.there (w.heap.size+1) 0 M.toArray.size):=af (dG hbr2 (by simp[hMl]))
 have HBF:Hid ((w2.setCells (w.heap.size+1) 0 M).heap[w.heap.size+1]?=some (.cells M.toArray 176 (0,0))):=af (oj hbr2 (by rw[hMl];rfl))
 have HGF:Hid (w.grownBy (w2.setCells (w.heap.size+1) 0 M) none):=af (cy (by omega) _ _ (ae HG1.out hg2))
 clear hg2 hbr2 HFI
 go_wp2_with (first
  |(refine wpList_store_mid rfl 176 (.tmp 6) (.tmp 18) rfl (w.heap.size+1) 0 M.toArray rfl rfl HTH.out HIMs.out HOM.out ?_))
 refine bodyPost_ret (aO Tryz.results95 rfl HBF.out Tryz.underlying176 rfl HIMs.out rfl) rfl ⟨rfl,HGF.out⟩
structure D0 (b o:Nat)(G:List Nat)(w w':World):Prop where
 fr:Fr (b::G) w w'
 cell:∀ i,(i<o∨o+244≤i)→w'.cell? ⟨b,i,none⟩=w.cell? ⟨b,i,none⟩
 blk:∀ {cs:Array Value} {t:TypeId},w.heap[b]?=some (.cells cs t (0,0))→∃ cs',w'.heap[b]?=some (.cells cs' t (0,0))
theorem FH {w w':World}{B:Nat}{e:TypeId}{size:Nat}{v:Value}{n:Nat}{xs:List Value}{F:List Nat}(h:w.ownsRow B e size v n xs)(hf:Fr F w w')(hF:∀ g∈F,g<B):w'.ownsRow B e size v n xs:=by
 obtain⟨h1,h2⟩:=h
 refine⟨h1,?_⟩
 rcases h2 with h2|⟨g,cap,cur,rfl,hb,hh,h3⟩
 ·exact .inl h2
 ·exact .inr ⟨g,cap,cur,rfl,hb,(hf.block g (lt_of_block hh) (fun hm=>by have:=hF g hm;omega)).trans hh,h3⟩
def Fq (b o:Nat)(S:aJ)(fm:Nat→Option Int)(p:Nat)(t:Int)(w w':World):Prop:=∃ g,cJ w' b o { S with mks:=some g }∧jH (some g) (cI fm p (some t)) w'∧D0 b o S.mks.toList w w'∧g≠b∧(S.mks=some g∨w.heap.size≤g)
theorem sj {Z:Array Value}{fm:Nat→Option Int}{p:Nat}{t:Int}(hp:p<9000)(h:∀ q,q<9000→Z[q*2]?=some (.bool (fm q).isSome)∧Z[q*2+1]?=some (.int .i64 ((fm q).getD 0))):
  ∀ q,q<9000→((Z.setIfInBounds (p*2) (.bool true)).setIfInBounds (p*2+1) (.int .i64 t))[q*2]?=some (.bool (cI fm p (some t) q).isSome)∧((Z.setIfInBounds (p*2) (.bool true)).setIfInBounds (p*2+1) (.int .i64 t))[q*2+1]?=some (.int .i64 ((cI fm p (some t) q).getD 0)):=by
 intro q hq
 have s0:p*2<Z.size:=(Array.getElem?_eq_some_iff.mp (h p hp).1).1
 have s1:p*2+1<Z.size:=(Array.getElem?_eq_some_iff.mp (h p hp).2).1
 by_cases e:q=p
 ·subst e
  rw[aW]
  refine⟨?_,?_⟩
  ·rw[Array.getElem?_setIfInBounds_ne (by omega),Array.getElem?_setIfInBounds_self_of_lt s0]
   rfl
  ·rw[Array.getElem?_setIfInBounds_self_of_lt (by simpa using s1)]
   rfl
 ·rw[bF _ _ _ e]
  refine⟨?_,?_⟩
  ·rw[Array.getElem?_setIfInBounds_ne (by omega),Array.getElem?_setIfInBounds_ne (by omega)]
   exact (h q hq).1
  ·rw[Array.getElem?_setIfInBounds_ne (by omega),Array.getElem?_setIfInBounds_ne (by omega)]
   exact (h q hq).2
theorem rO {w w':World}{b o:Nat}{S:aJ}{m:Option Nat}(h:cJ w b o S)(hc:∀ i,i≠o+243→w'.cell? ⟨b,i,none⟩=w.cell? ⟨b,i,none⟩)(hm:w'.cell? ⟨b,o+243,none⟩=some (Fn m)):cJ w' b o { S with mks:=m }:=
 ⟨(hc _ (by omega)).trans h.num,(hc _ (by omega)).trans h.snap,(hc _ (by omega)).trans h.cnt,fun c hl=>(hc _ (by omega)).trans (h.made c hl),fun c hl=>(hc _ (by omega)).trans (h.filled c hl),fun c hl=>(hc _ (by omega)).trans (h.val c hl),fun c hl=>(hc _ (by omega)).trans (h.tm c hl),hm,h.ok⟩
theorem Bf (wt:Int)(i:In)(b o:Nat)(S:aJ)(fm:Nat→Option Int)(w:World){cs:Array Value}{ty:TypeId}(hb:w.heap[b]?=some (.cells cs ty (0,0)))(hr:i.rule<9)(hl:i.facts.length≤3)(h:cJ w b o S)(hM:jH S.mks fm w)(hne:S.mks≠some b):
  Calls Tryz.prog 119 #[.pointer (some ⟨b,o+243,none⟩),.agg (aG wt i).toArray] w fun e w'=>e=.returned (.tuple #[])∧Fq b o S fm (bW i) (b9 i.facts) w w':=by
 have hp:=za hr hl
 have hbl:=lt_of_block hb
 have hmk:=h.mks
 cases hm:S.mks with
 |none=>
  rw[hm] at hmk hM
  refine (Bj wt i b (o+243) 9000 w hr hl hmk rfl (ai hb _)).mono ?_
  rintro e w' ⟨rfl,L,Z,w1,m,hZ,hg,rfl⟩
  refine⟨rfl,?_⟩
  have hgb:w.heap.size+1≠b:=by omega
  have hbg:=hgb.symm
  obtain⟨v,hv⟩:∃ v,v=Value.slice (some ⟨w.heap.size+1,0,none⟩) 9000 9000:=⟨_,rfl⟩
  rw[←hv] at hg
  have ssz:(w.setCell ⟨b,o+243,none⟩ v).heap.size=w.heap.size:=by simp[World.setCell]
  have hb3:∀ k,k<w.heap.size→(((w.setCell ⟨b,o+243,none⟩ v).alloc (.cells L 176)).alloc (.cells Z 211)).heap[k]?=(w.setCell ⟨b,o+243,none⟩ v).heap[k]?:=fun k hk=>by
   rw[Below.heap_alloc _ _ _ (by simp[ssz];omega),Below.heap_alloc _ _ _ (by rw[ssz];exact hk)]
  have hblk:∀ k,k<w.heap.size→(((w1.setCell ⟨w.heap.size+1,bW i*2,none⟩ (.bool true)).setCell ⟨w.heap.size+1,bW i*2+1,none⟩ (.int .i64 (b9 i.facts))).drewN m).heap[k]?=(w.setCell ⟨b,o+243,none⟩ v).heap[k]?:=fun k hk=>by
   show (World.setCell (World.setCell _ _ _) _ _).heap[k]?=_
   rw[jm (by omega),jm (by omega),hg.block k (by simp[ssz];omega) (by simp),hb3 k hk]
  have hcell:∀ j,(((w1.setCell ⟨w.heap.size+1,bW i*2,none⟩ (.bool true)).setCell ⟨w.heap.size+1,bW i*2+1,none⟩ (.int .i64 (b9 i.facts))).drewN m).cell? ⟨b,j,none⟩=(w.setCell ⟨b,o+243,none⟩ v).cell? ⟨b,j,none⟩:=fun j=>by
   simp only[World.cell?,hblk b hbl]
  have hsz:w.heap.size+1+1≤w1.heap.size:=by
   have:=hg.size
   simp[ssz] at this
   omega
  have hZb:w1.heap[w.heap.size+1]?=some (.cells Z 211 (0,0)):=by
   rw[hg.block (w.heap.size+1) (by simp[ssz]) (by simp)]
   exact bm (by simp[ssz])
  refine⟨w.heap.size+1,rO h (fun j hj=>by rw[hcell,aU hj]) (by rw[hcell,gp hmk,hv];rfl),?_,⟨?_,?_,?_⟩,hgb,.inr (by omega)⟩
  ·refine⟨_,ah (ah hZb (bW i*2) (.bool true)) (bW i*2+1) (.int .i64 (b9 i.facts)),sj hp (fun q hq=>?_)⟩
   rw[hM q hq]
   exact hZ q hq
  ·have f0:Fr (b::S.mks.toList) w (((w.setCell ⟨b,o+243,none⟩ v).alloc (.cells L 176)).alloc (.cells Z 211)):=(((Fr.refl _ w).set (.inl (by simp)) v).alloc _).alloc _
   have f1:Fr (b::S.mks.toList) w w1:=f0.trans ((aK hg).mono (fun k hk=>by cases hk))
   exact ((f1.set (.inr (by show w.heap.size≤w.heap.size+1;omega)) _).set (.inr (by show w.heap.size≤w.heap.size+1;omega)) _).drewN m
  ·intro j hj
   rw[hcell,aU (by omega)]
  ·intro cs' t' hb'
   exact⟨_,(hblk b hbl).trans (ah hb' _ _)⟩
 |some g=>
  rw[hm] at hmk hM hne
  have hgb:g≠b:=fun e=>hne (by rw[e])
  obtain⟨Z,h1,h2⟩:=hM
  obtain⟨a1,a2⟩:=h2 _ hp
  refine (AH wt i b (o+243) g 9000 _ _ w hr hl hmk rfl (by rw[cell_of_row _ _ _ _ _ _ h1];exact a1) (by rw[cell_of_row _ _ _ _ _ _ h1];exact a2) (ai h1) hgb.symm).mono ?_
  rintro e w' ⟨rfl,w1,m,hg,rfl⟩
  refine⟨rfl,?_⟩
  have hgl:=lt_of_block h1
  have hblk:∀ k,k<w.heap.size→k≠g→(((w1.setCell ⟨g,bW i*2,none⟩ (.bool true)).setCell ⟨g,bW i*2+1,none⟩ (.int .i64 (b9 i.facts))).drewN m).heap[k]?=w.heap[k]?:=fun k hk hkg=>by
   show (World.setCell (World.setCell _ _ _) _ _).heap[k]?=_
   rw[jm hkg,jm hkg,hg.block k hk (by simp)]
  have hcell:∀ j,(((w1.setCell ⟨g,bW i*2,none⟩ (.bool true)).setCell ⟨g,bW i*2+1,none⟩ (.int .i64 (b9 i.facts))).drewN m).cell? ⟨b,j,none⟩=w.cell? ⟨b,j,none⟩:=fun j=>by
   simp only[World.cell?,hblk b hbl hgb.symm]
  have hZb:w1.heap[g]?=some (.cells Z 211 (0,0)):=(hg.block g hgl (by simp)).trans h1
  refine⟨g,rO h (fun j _=>hcell j) (by rw[hcell];exact hmk),?_,⟨?_,fun j _=>hcell j,?_⟩,hgb,.inl hm⟩
  ·exact⟨_,ah (ah hZb (bW i*2) (.bool true)) (bW i*2+1) (.int .i64 (b9 i.facts)),sj hp h2⟩
  ·have f1:Fr (b::S.mks.toList) w w1:=(aK hg).mono (fun k hk=>by cases hk)
   exact ((f1.set (.inl (by rw[hm];simp)) _).set (.inl (by rw[hm];simp)) _).drewN m
  ·intro cs' t' hb'
   exact⟨_,(hblk b hbl hgb.symm).trans hb'⟩
theorem cJ.grown {w w':World}{b o:Nat}{S:aJ}(h:cJ w b o S)(hW:w.grownBy w' none):cJ w' b o S:=
 ⟨am hW h.num,am hW h.snap,am hW h.cnt,fun c hc=>am hW (h.made c hc),fun c hc=>am hW (h.filled c hc),fun c hc=>am hW (h.val c hc),fun c hc=>am hW (h.tm c hc),am hW h.mks,h.ok⟩
def puts (S:aJ)(ws:List (Nat×Option Int)):aJ:=ws.foldl (fun S q=>S.put q.1 q.2) S
theorem zH (S:aJ)(ws:List (Nat×Option Int))(j:Nat)(hj:j<ws.length):puts S (ws.take (j+1))=(puts S (ws.take j)).put ws[j].1 ws[j].2:=by
 unfold puts
 rw[List.take_succ_eq_append_getElem hj,List.foldl_append]
 rfl
theorem nO (ws:List (Nat×Option Int)):∀ S:aJ,(puts S ws).made=S.made+ws.length∧(puts S ws).snap=S.snap∧(puts S ws).mks=S.mks:=by
 induction ws with
 |nil=>intro S;simp[puts]
 |cons q ws ih=>
  intro S
  obtain⟨h1,h2,h3⟩:=ih (S.put q.1 q.2)
  unfold puts at*
  rw[List.foldl_cons]
  refine⟨?_,h2,h3⟩
  rw[h1]
  simp[aJ.put]
  omega
theorem D0.same {b o:Nat}{G:List Nat}{w w':World}(h:D0 b o G w w'){w2:World}(hc:kB w' w2 b o 244):D0 b o G w w2:=
 ⟨h.fr.trans (hc.fr.mono (fun k hk=>.inl (by simp at hk;simp[hk]))),fun i hi=>(hc.cell i hi).trans (h.cell i hi),fun hb=>by
  obtain⟨cs,h1⟩:=h.blk hb
  exact hc.blk h1⟩
theorem D0.before {b o:Nat}{G:List Nat}{w W w':World}(h:D0 b o G W w')(hW:Fr [] w W)(hb:b<w.heap.size):D0 b o G w w':=by
 have e:=hW.block b hb (by simp)
 refine⟨(hW.mono (fun k hk=>by cases hk)).trans h.fr,fun i hi=>(h.cell i hi).trans (by simp only[World.cell?,e]),fun hk=>h.blk (e.trans hk)⟩
def qW (b o:Nat)(S:aJ)(fm:Nat→Option Int)(p:Nat)(t:Int)(ws:List (Nat×Option Int))(w w':World):Prop:=∃ g,cJ w' b o (puts { S with mks:=some g } ws)∧jH (some g) (cI fm p (some t)) w'∧D0 b o S.mks.toList w w'∧g≠b∧(S.mks=some g∨w.heap.size≤g)
theorem zT (wt:Int)(i:In)(b o:Nat)(S:aJ)(fm:Nat→Option Int)(ws:List (Nat×Option Int))(ea:Option Addr)(ec BE:Nat)(w:World){cs:Array Value}{ty:TypeId}(hb:w.heap[b]?=some (.cells cs ty (0,0)))(hr:i.rule<9)(hl:i.facts.length≤3)(h:cJ w b o S)(hM:jH S.mks fm w)(hne:S.mks≠some b)
  (hws:∀ q∈ws,q.1<60) (hwl:ws.length≤400) (hrow:w.ownsRow BE 221 3 (.slice ea ws.length ec) ws.length (Cf ws)) (hBE:b<BE) (hGE:∀ g,S.mks=some g→g<BE) (hsn:0≤S.snap) (hmo:S.snap+(S.made+401)≤9223372036854775807) :
  Calls Tryz.prog 97 #[.pointer (some ⟨b,o,none⟩),.agg (aG wt i).toArray,.slice ea ws.length ec] w fun e w'=>e=.returned (.tuple #[])∧qW b o S fm (bW i) (b9 i.facts) ws w w':=by
 have hbl:=lt_of_block hb
 have HADD:Hid (∀ W,w.grownBy W none→Calls Tryz.prog 119 #[.pointer (some ⟨b,o+243,none⟩),.agg (aG wt i).toArray] W fun e w'=>e=.returned (.tuple #[])∧Fq b o S fm (bW i) (b9 i.facts) W w'):=af (fun W hW=>Bf wt i b o S fm W ((hW.block b hbl (by simp)).trans hb) hr hl (h.grown hW) (hM.grown hW) hne)
 obtain⟨L,hL⟩:∃ L,L=aG wt i:=⟨_,rfl⟩
 have hLl:L.length=24:=by rw[hL];rfl
 rw[←hL] at HADD ⊢
 have HIL:Hid ((Tryz.prog.info? 176).map (·.size)=some L.length):=af (by rw[hLl];exact bE)
 have HBN:Hid ((w.alloc (.cells L.toArray 176)).heap[w.heap.size]?=some (.cells L.toArray 176 (0,0))):=af (heap_alloc_new w _)
 have HRL:Hid ((w.alloc (.cells L.toArray 176)).rangeAt w.heap.size 0 L):=af (aF HBN.out rfl)
 have HG0:Hid (w.grownBy (w.alloc (.cells L.toArray 176)) none):=af (ab (ag _ _) _)
 have HROW:=af hrow
 have HGE:=af hGE
 have HB:=af hb
 have HGL:Hid (∀ g,S.mks=some g→g<w.heap.size):=af (fun g hg=>by
  rw[hg] at hM
  obtain⟨Z,h1,_⟩:=hM
  exact lt_of_block h1)
 have HWS:=af hws
 obtain⟨pp,hpp⟩:∃ pp,pp=bW i:=⟨_,rfl⟩
 obtain⟨lt,hlt⟩:∃ lt,lt=b9 i.facts:=⟨_,rfl⟩
 rw[←hpp,←hlt] at HADD ⊢
 clear hL hrow hGE hM h hb hpp hlt hws
 go_enter Tryz.func97,Tryz.ntmps97
 go_wp2_with fail
 refine wp_region_held_drew (S:=fun W=>W.rangeAt w.heap.size 0 L) (by kernel_rfl) HRL.out (fun hHeld=>?_)
 refine wpAnyH_take (i:=0) (v:=.pointer (some ⟨b,o,none⟩)) rfl (by kernel_rfl) (by kernel_rfl) (by kernel_rfl) (fun _ _ _ h=>h) (Or.inl ⟨by rfl,?_⟩) hHeld ?_
 ·intro W hSw
  go_simp
 refine wpAnyH_take (i:=1) (v:=.pointer (some ⟨b,o,none⟩)) rfl (by kernel_rfl) (by kernel_rfl) (by kernel_rfl) (fun _ _ _ h=>h) (Or.inl ⟨by rfl,?_⟩) hHeld ?_
 ·intro W hSw
  go_simp
 refine wpAnyH_take (i:=2) (v:=.pointer (some ⟨b,o+243,none⟩)) rfl (by kernel_rfl) (by kernel_rfl) (by kernel_rfl) (fun _ _ _ h=>h) (Or.inl ⟨by rfl,?_⟩) hHeld ?_
 ·intro W hSw
  go_simp
 refine wpAnyH_take (i:=3) (v:=.agg L.toArray) rfl (by kernel_rfl) (by kernel_rfl) (by kernel_rfl) (fun _ _ _ h=>h) (yieldsIf_load_mid (by rfl) 176 _ rfl w.heap.size 0 rfl L _ (fun W hSw=>hSw) Tryz.underlying176 rfl HIL.out) hHeld ?_
 refine wpAnyH_ready (rs:=[4]) (by kernel_rfl) (by simp) ?_
 refine AllReadyH.cons (o:=_) rfl (fun K hK=>?_) AllReadyH.nil
 go_simp
 go_at_call 119
 refine (HADD.out _ (al HG0.out 1)).mono ?_
 rintro e w1 ⟨rfl,hadd⟩
 obtain⟨g,hS1,hM1,hF1,hgb,hgo⟩:=hadd
 have hr1:w1.rangeAt w.heap.size 0 L:=aF ((hF1.fr.block w.heap.size (lt_of_block HBN.out) (fun hm=>by
  rcases List.mem_cons.mp hm with e|e
  ·omega
  ·cases hk:S.mks with
   |none=>rw[hk] at e;cases e
   |some g2=>
    rw[hk] at e
    simp at e
    have h1:=HGE.out g2 hk
    have h2:=HGL.out g2 hk
    omega)).trans HBN.out) rfl
 go_wp2_with fail
 refine hK.out _ _ hr1 (fun hHeld2=>?_)
 clear hK K
 refine wpAnyH_done (by kernel_rfl) ?_ _
 have HF1:Hid (D0 b o S.mks.toList w w1):=af (hF1.before (((aA w _)).drewN 1) hbl)
 have HS1:=af hS1
 have HM1:=af hM1
 have HGO:Hid (S.mks=some g∨w.heap.size≤g):=af (by
  rcases hgo with h|h
  ·exact .inl h
  ·refine .inr (Nat.le_trans ?_ h)
   have:=(aA w (.cells L.toArray 176)).size
   exact this)
 obtain⟨cs1,hb1⟩:=HF1.out.blk HB.out
 have HB1:=af hb1
 have HRW:Hid (∀ wr,kB w1 wr b o 244→wr.ownsRow BE 221 3 (.slice ea ws.length ec) ws.length (Cf ws)):=af (fun wr hc=>FH HROW.out (HF1.out.same hc).fr (fun k hk=>by
  rcases List.mem_cons.mp hk with e|e
  ·omega
  ·cases hx:S.mks with
   |none=>rw[hx] at e;cases e
   |some g2=>
    rw[hx] at e
    simp at e
    have:=HGE.out g2 hx
    omega))
 obtain⟨S1,hS1e⟩:∃ S1:aJ,S1={ S with mks:=some g }:=⟨_,rfl⟩
 have HS1E:=af hS1e
 rw[←hS1e] at HS1
 have HMORE:Hid (∀ j,j≤400→(puts S1 (ws.take j)).more):=af (fun j hj=>by
  obtain⟨h1,h2,_⟩:=nO (ws.take j) S1
  unfold aJ.more
  rw[h1,h2,hS1e]
  have h3:=List.length_take_le j ws
  simp only
  omega)
 clear hF1 hS1 hM1 hgo hHeld hHeld2 hr1 HADD hb1 hS1e HRL HBN hmo hsn
 go_wp2_with fail
 go_loopw [15] (fun t wr=>∃ j:Nat,j≤ws.length∧t=.int .i64 j∧cJ wr b o (puts S1 (ws.take j))∧kB w1 wr b o 244) (fun t _=>ws.length - (intOf t).toNat)
 case atStart=>exact⟨0,by omega,rfl,HS1.out,kB.refl _ _ _ _⟩
 case round=>
  obtain⟨j,hj,rfl,hses,hch⟩:=hrel
  have HSES:=af hses
  have HCH:=af hch
  by_cases hlt:j<ws.length
  ·obtain⟨ge,rfl,_,_,hgel,hecell⟩:=aE (HRW.out wr hch) (by omega)
   obtain⟨E,hE⟩:∃ E,E=Eq ws[j]:=⟨_,rfl⟩
   have hEl:E.length=3:=by rw[hE];rfl
   have HRG:Hid (wr.rangeAt ge (j*3) E):=af (by rw[hE];exact eX (f:=Eq) (fun _=>rfl) hecell hlt)
   have HIE:Hid ((Tryz.prog.info? 221).map (·.size)=some E.length):=af (by rw[hEl];kernel_rfl)
   have HOEA:Hid (E.toArray.all (·.oneCell')=true):=af (all_oneCell_toArray (by rw[hE];exact yy _))
   have hbn:(wr.alloc (.cells E.toArray 221)).heap[wr.heap.size]?=some (.cells E.toArray 221 (0,0)):=heap_alloc_new wr _
   obtain⟨c,hc⟩:∃ c,c=ws[j].1:=⟨_,rfl⟩
   obtain⟨v,hv⟩:∃ v,v=ws[j].2:=⟨_,rfl⟩
   have k0:(wr.alloc (.cells E.toArray 221)).cell? ⟨wr.heap.size,0,none⟩=some (.int .i64 c):=bd hbn (by rw[hE,hc];rfl)
   have k1:(wr.alloc (.cells E.toArray 221)).cell? ⟨wr.heap.size,1,none⟩=some (.bool v.isSome):=bd hbn (by rw[hE,hv];rfl)
   have k2:(wr.alloc (.cells E.toArray 221)).cell? ⟨wr.heap.size,2,none⟩=some (.int .i64 (v.getD 0)):=bd hbn (by rw[hE,hv];rfl)
   obtain⟨cs2,hb2⟩:=hch.blk HB1.out
   have hbl2:=lt_of_block hb2
   have hc60:c<60:=by rw[hc];exact HWS.out _ (List.getElem_mem hlt)
   have HREC:=af (nX b o c v (puts S1 (ws.take j)) (wr.alloc (.cells E.toArray 221)) hc60 ((Below.heap_alloc _ _ _ hbl2).trans hb2) (hses.grown (ab (ag _ _) _)) (HMORE.out j (by omega)))
   have HPT:=af (zH S1 ws j hlt)
   rw[←hc,←hv] at HPT
   obtain⟨vs,hvs⟩:∃ vs,vs=v.isSome:=⟨_,rfl⟩
   obtain⟨vg,hvg⟩:∃ vg,vg=v.getD 0:=⟨_,rfl⟩
   rw[←hvs] at k1 HREC
   rw[←hvg] at k2 HREC
   have hne2:ge≠wr.heap.size:=by omega
   have HAL:Hid (kB w1 (wr.alloc (.cells E.toArray 221)) b o 244):=af (hch.alloc (lt_of_block HB1.out) _)
   clear hE hc hv hvs hvg hbn hb2 hses hch hecell
   go_wp2_with (first
    |(refine wpList_load_mid rfl 221 (.tmp 17) rfl ge (j*3) rfl E _ HRG.out Tryz.underlying221 rfl HIE.out ?_)
    |(refine az rfl 221 (.tmp 7) (.tmp 18) rfl _ E rfl rfl hEl.symm HIE.out HOEA.out ?_))
   go_at_call 81
   refine HREC.out.mono ?_
   rintro e w2 ⟨rfl,hput⟩
   have HS2:Hid (cJ w2 b o (puts S1 (ws.take (j+1)))):=af (by rw[HPT.out];exact hput.ses)
   have HC2:Hid (kB w1 w2 b o 244):=af (HAL.out.trans hput.chg)
   clear hput HREC
   go_wp2_with fail
   go_roundw
   case rel=>exact⟨j+1,by omega,by go_num,HS2.out,HC2.out⟩
   case measure=>simp[intOf];omega
  ·have hjl:j=ws.length:=by omega
   subst hjl
   rw[List.take_length] at HSES
   have HMF:Hid (jH (some g) (cI fm pp (some lt)) wr):=af (by
    obtain⟨Z,h1,h2⟩:=HM1.out
    exact⟨Z,(hch.fr.block g (lt_of_block h1) (by simpa using hgb)).trans h1,h2⟩)
   clear hses hch
   go_wp2_with fail
   go_returns
   refine⟨rfl,g,?_,HMF.out,HF1.out.same HCH.out,hgb,HGO.out⟩
   rw[←HS1E.out]
   exact HSES.out
end Go.Proofs.YthlhbjnkohinmaaGreat
