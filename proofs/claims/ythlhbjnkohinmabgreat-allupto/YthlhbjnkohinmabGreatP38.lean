import Derived.Test.YthlhbjnkohinmabGreatP37
import Derived.Laws.StructEq
import Derived.Laws.MakeOwn
namespace Go.Proofs.YthlhbjnkohinmabGreat
set_option maxRecDepth 100000
set_option maxHeartbeats 8000000
open Go.RowKit
theorem ph {i:In}(hr:i.rule<9)(hl:i.facts.length≤3):0≤kI i∧kI i≤8999:=by
 have:=qo (l8 i.facts) i.facts.length hl
 unfold kI
 omega
theorem mq (W:World)(x y:Operand)(xs ys:Array Value):(eqGuard .eql 210 x y (.agg xs) (.agg ys)).run Tryz.prog W=.ok () W:=run_eqGuard_agg W .eql _ x y xs ys (by kernel_rfl)
theorem tu (W:World)(b:Bool)(t lt:Int):(binOp .eql 210 (.agg #[.bool b,.int .i64 t]) (.agg #[.bool true,.int .i64 lt])).run Tryz.prog W=.ok (.bool (b&&t==lt)) W:=by
 rw[run_eql_struct,run_equalIn_agg W 9999 _ _ _ (by kernel_rfl) (by kernel_rfl)]
 unfold Program.fieldsOf
 rw[Tryz.underlying210]
 simp only[]
 go_simp
 cases b with
 |false=>simp
 |true=>by_cases h:t=lt <;> simp[h]
def bZ (i:In):Nat:=(kI i).toNat
theorem Ae (wt:Int)(i:In)(x o g N:Nat)(b:Bool)(t:Int)(w:World)(hr:i.rule<9)(hl:i.facts.length≤3)(hm:w.cell? ⟨x,o,none⟩=some (.slice (some ⟨g,0,none⟩) N N))(hN:N=9000)
  (hb:w.cell? ⟨g,bZ i*2,none⟩=some (.bool b)) (ht:w.cell? ⟨g,bZ i*2+1,none⟩=some (.int .i64 t)) :
  Calls Tryz.prog 83 #[.pointer (some ⟨x,o,none⟩),.agg (aG wt i).toArray] w fun e w'=>e=.returned (.bool (b&&(t==ce i.facts)))∧w.grownBy w' none:=by
 have HP:Hid (∀ W,Calls Tryz.prog 107 #[.agg (aG wt i).toArray] W fun e w'=>e=.returned (.tuple #[.int .i64 (kI i),.bool true])∧W.grownBy w' none):=af (fun W=>j8 wt i W hr hl)
 have hp:=ph hr hl
 have hpn:kI i=(bZ i:Int):=by unfold bZ;omega
 obtain⟨L,hL⟩:∃ L,L=aG wt i:=⟨_,rfl⟩
 have hLl:L.length=24:=by rw[hL];rfl
 obtain⟨lt,hlt⟩:∃ lt,lt=ce i.facts:=⟨_,rfl⟩
 rw[hpn] at HP
 rw[←hL] at HP ⊢
 rw[←hlt]
 obtain⟨p,hpp⟩:∃ p,p=bZ i:=⟨_,rfl⟩
 have hp9:p≤8999:=by omega
 rw[←hpp] at HP hb ht
 have HIL:Hid ((Tryz.prog.info? 175).map (·.size)=some L.length):=af (by rw[hLl];exact bC)
 have HBN:Hid ((w.alloc (.cells L.toArray 175)).heap[w.heap.size]?=some (.cells L.toArray 175 (0,0))):=af (heap_alloc_new w _)
 have HRL:Hid ((w.alloc (.cells L.toArray 175)).rangeAt w.heap.size 0 L):=af (aF HBN.out rfl)
 have HL2:Hid (L[2]?=some (.int .i64 lt)):=af (by rw[hL,hlt];rfl)
 have HM:=af hm
 have HB:=af hb
 have HT:=af ht
 have p0:(0:Int)≤(p:Int):=by omega
 have p9:(p:Int)<(N:Int):=by omega
 obtain⟨res,hres⟩:∃ res,res=(b&&(t==lt)):=⟨_,rfl⟩
 rw[←hres]
 have HRES:=af hres
 clear hres hL hlt hpp hpn hp hm hb ht hN hp9
 go_enter Tryz.func83,Tryz.ntmps83
 go_wp2_with (first
  |(refine wpList_load_mid rfl 175 (.tmp 3) rfl w.heap.size 0 rfl L _ HRL.out Tryz.underlying175 rfl HIL.out ?_))
 go_at_call 107
 refine (HP.out _).mono ?_
 rintro e w1 ⟨rfl,hg1⟩
 have HG1:=af (ae (ab (ag w none) _) hg1)
 have hm1:=am HG1.out HM.out
 have hb1:=am HG1.out HB.out
 have ht1:=am HG1.out HT.out
 have hl1:w1.cell? ⟨w.heap.size,2,none⟩=some (.int .i64 lt):=bc ((hg1.block _ (lt_of_block HBN.out) (by simp)).trans HBN.out) HL2.out
 have hq1:=tu w1 b t lt
 have hq2:=mq w1
 have hq3:=tu w1.drew b t lt
 have hq4:=mq w1.drew
 have hq5:=fun W=>tu W b t lt
 have hq6:=mq
 clear hg1 HP
 go_wp2_with fail
 go_quiet ((fail))
 go_wp2_with fail
 go_ret
 refine⟨?_,al HG1.out _⟩
 rw[HRES.out]
 rfl
theorem oY {P:Program}{ops:Array Oper}{rest:List Oper}{op:Oper}{a:Act}{w:World}{Q:Exit→Act→World→Prop}(hgd:op.guard=none)(t:TypeId)(l c:Operand)(ho:op.op=.makeSlice t l c)
  (vl vc v:Value) (w':World) (hl:a.eval l=vl) (hc:a.eval c=vc) (hrun:(Instr.makeSlice t vl vc).run P w=.ok v w') (h:wpList P ops Q rest (a.put op.dst v) w'):wpList P ops Q (op::rest) a w:=
 wpList_plain hgd fun _ hK=>by
  unfold Oper.wp execOp
  simp only[ho,hl,hc,Sem.run_bind,Sem.run_pure,hrun,Result.andThen_ok]
  exact hK _ _ h
theorem z9 (wt:Int)(i:In)(x o g N:Nat)(u0 u1:Value)(w:World)(hr:i.rule<9)(hl:i.facts.length≤3)(hm:w.cell? ⟨x,o,none⟩=some (.slice (some ⟨g,0,none⟩) N N))(hN:N=9000)
  (hb:w.cell? ⟨g,bZ i*2,none⟩=some u0) (ht:w.cell? ⟨g,bZ i*2+1,none⟩=some u1) (hz:∀ j,w.frozen? ⟨g,j,none⟩=false) (hxg:x≠g) :
  Calls Tryz.prog 113 #[.pointer (some ⟨x,o,none⟩),.agg (aG wt i).toArray] w fun e w'=>e=.returned (.tuple #[])∧∃ w1 m,w.grownBy w1 none∧w'=((w1.setCell ⟨g,bZ i*2,none⟩ (.bool true)).setCell ⟨g,bZ i*2+1,none⟩ (.int .i64 (ce i.facts))).drewN m:=by
 have HP:Hid (∀ W,Calls Tryz.prog 107 #[.agg (aG wt i).toArray] W fun e w'=>e=.returned (.tuple #[.int .i64 (kI i),.bool true])∧W.grownBy w' none):=af (fun W=>j8 wt i W hr hl)
 have hp:=ph hr hl
 have hpn:kI i=(bZ i:Int):=by unfold bZ;omega
 obtain⟨L,hL⟩:∃ L,L=aG wt i:=⟨_,rfl⟩
 have hLl:L.length=24:=by rw[hL];rfl
 obtain⟨lt,hlt⟩:∃ lt,lt=ce i.facts:=⟨_,rfl⟩
 rw[hpn] at HP
 rw[←hL] at HP ⊢
 rw[←hlt]
 obtain⟨p,hpp⟩:∃ p,p=bZ i:=⟨_,rfl⟩
 have hp9:p≤8999:=by omega
 rw[←hpp] at HP hb ht ⊢
 have HIL:Hid ((Tryz.prog.info? 175).map (·.size)=some L.length):=af (by rw[hLl];exact bC)
 have HBN:Hid ((w.alloc (.cells L.toArray 175)).heap[w.heap.size]?=some (.cells L.toArray 175 (0,0))):=af (heap_alloc_new w _)
 have HRL:Hid ((w.alloc (.cells L.toArray 175)).rangeAt w.heap.size 0 L):=af (aF HBN.out rfl)
 have HL2:Hid (L[2]?=some (.int .i64 lt)):=af (by rw[hL,hlt];rfl)
 have hgl:g<w.heap.size:=World.block_lt_of_cell? w _ hb
 have hxl:x<w.heap.size:=World.block_lt_of_cell? w _ hm
 have HM:=af hm
 have HB:=af hb
 have HT:=af ht
 have HZ:=af hz
 have p0:(0:Int)≤(p:Int):=by omega
 have p9:(p:Int)<(N:Int):=by omega
 have hNz:((N:Int)==0)=false:=by
  have:(N:Int)≠0:=by omega
  simpa using this
 have hm0:(w.alloc (.cells L.toArray 175)).cell? ⟨x,o,none⟩=some (.slice (some ⟨g,0,none⟩) N N):=am (ab (ag w none) _) hm
 have hxz:x≠w.heap.size:=by omega
 have hgz:g≠w.heap.size:=by omega
 have hgx:=hxg.symm
 clear hL hlt hpp hpn hp hm hb ht hN hp9 hz
 go_enter Tryz.func113,Tryz.ntmps113
 go_wp2_with (first
  |(refine wpList_load_mid rfl 175 (.tmp 3) rfl w.heap.size 0 rfl L _ HRL.out Tryz.underlying175 rfl HIL.out ?_))
 go_at_call 107
 refine (HP.out _).mono ?_
 rintro e w1 ⟨rfl,hg1⟩
 have HG1:=af (ae (ab (ag w none) _) hg1)
 have hm1:=am HG1.out HM.out
 have hb1:=am HG1.out HB.out
 have ht1:=am HG1.out HT.out
 have hl1:w1.cell? ⟨w.heap.size,2,none⟩=some (.int .i64 lt):=bc ((hg1.block _ (lt_of_block HBN.out) (by simp)).trans HBN.out) HL2.out
 have hz1:∀ j,w1.frozen? ⟨g,j,none⟩=false:=fun j=>by
  have hb2:=HG1.out.block g hgl (by simp)
  have:=HZ.out j
  unfold World.frozen? at this ⊢
  simp only at this ⊢
  rw[hb2]
  exact this
 clear hg1 HP
 go_wp2_with fail
 go_region
 all_goals go_wp2_with fail
 all_goals go_returns
 all_goals exact⟨rfl,w1,1,HG1.out,rfl⟩
def yO (Z:Array Value):Prop:=∀ j,j<9000→Z[j*2]?=some (.bool false)∧Z[j*2+1]?=some (.int .i64 0)
theorem Tryz.infoM:(Tryz.prog.info? 210).map (fun i=>(i.zero,i.size,i.bytes))=some (some (.agg #[.bool false,.int .i64 0]),2,16):=by kernel_rfl
theorem xD (w:World):∃ Z,yO Z∧(Instr.makeSlice 81 (.int .i64 9000) (.int .i64 9000)).run Tryz.prog w=.ok (.slice (some ⟨w.heap.size,0,none⟩) 9000 9000) (w.alloc (.cells Z 210)):=by
 obtain⟨i0,hi0,hz0,hz1,hz2⟩:=info_parts Tryz.infoM
 have:=run_make (P:=Tryz.prog) w 81 210 i0 (.agg #[.bool false,.int .i64 0]) Tryz.underlying81 hi0 hz0 .i64 .i64 9000 9000 (by omega) (by omega) (by rw[hz2];omega) (by omega)
 refine⟨_,?_,this⟩
 intro j hj
 rw[hz1]
 unfold madeCells
 have h1:j*2<(9000:Int).toNat*2:=by simp;omega
 have h2:j*2+1<(9000:Int).toNat*2:=by simp;omega
 refine⟨?_,?_⟩
 ·rw[Array.getElem?_map,Array.getElem?_range,if_pos h1]
  have e:j*2 % 2=0:=by omega
  simp[Value.cells,e]
 ·rw[Array.getElem?_map,Array.getElem?_range,if_pos h2]
  have e:(j*2+1) % 2=1:=by omega
  simp[Value.cells,e]
theorem AX (wt:Int)(i:In)(x o N:Nat)(w:World)(hr:i.rule<9)(hl:i.facts.length≤3)(hm:w.cell? ⟨x,o,none⟩=some (.slice none 0 0))(hN:N=9000)(hz:w.frozen? ⟨x,o,none⟩=false):
  Calls Tryz.prog 113 #[.pointer (some ⟨x,o,none⟩),.agg (aG wt i).toArray] w fun e w'=>e=.returned (.tuple #[])∧∃ L Z w1 m,yO Z∧(((w.setCell ⟨x,o,none⟩ (.slice (some ⟨w.heap.size+1,0,none⟩) N N)).alloc (.cells L 175)).alloc (.cells Z 210)).grownBy w1 none∧w'=((w1.setCell ⟨w.heap.size+1,bZ i*2,none⟩ (.bool true)).setCell ⟨w.heap.size+1,bZ i*2+1,none⟩ (.int .i64 (ce i.facts))).drewN m:=by
 have HP:Hid (∀ W,Calls Tryz.prog 107 #[.agg (aG wt i).toArray] W fun e w'=>e=.returned (.tuple #[.int .i64 (kI i),.bool true])∧W.grownBy w' none):=af (fun W=>j8 wt i W hr hl)
 have hp:=ph hr hl
 have hpn:kI i=(bZ i:Int):=by unfold bZ;omega
 obtain⟨L,hL⟩:∃ L,L=aG wt i:=⟨_,rfl⟩
 have hLl:L.length=24:=by rw[hL];rfl
 obtain⟨lt,hlt⟩:∃ lt,lt=ce i.facts:=⟨_,rfl⟩
 rw[hpn] at HP
 rw[←hL] at HP ⊢
 rw[←hlt]
 obtain⟨p,hpp⟩:∃ p,p=bZ i:=⟨_,rfl⟩
 have hp9:p≤8999:=by omega
 rw[←hpp] at HP ⊢
 have hxl:x<w.heap.size:=World.block_lt_of_cell? w _ hm
 obtain⟨Z,hZ,hmk⟩:=xD (w.alloc (.cells L.toArray 175))
 have hsz1:(w.alloc (.cells L.toArray 175)).heap.size=w.heap.size+1:=by simp
 rw[hsz1] at hmk
 have hmkN:(Instr.makeSlice 81 (.int .i64 9000) (.int .i64 9000)).run Tryz.prog (w.alloc (.cells L.toArray 175))=.ok (.slice (some ⟨w.heap.size+1,0,none⟩) N N) ((w.alloc (.cells L.toArray 175)).alloc (.cells Z 210)):=by rw[hN];exact hmk
 have HMK:=af hmkN
 have HZ:=af hZ
 obtain⟨W3,hW3⟩:∃ W3,W3=((w.setCell ⟨x,o,none⟩ (.slice (some ⟨w.heap.size+1,0,none⟩) N N)).alloc (.cells L.toArray 175)).alloc (.cells Z 210):=⟨_,rfl⟩
 have ssz:(w.setCell ⟨x,o,none⟩ (.slice (some ⟨w.heap.size+1,0,none⟩) N N)).heap.size=w.heap.size:=by simp[World.setCell]
 have b0:W3.heap[w.heap.size]?=some (.cells L.toArray 175 (0,0)):=by
  rw[hW3,Below.heap_alloc _ _ _ (by simp[ssz])]
  exact bn ssz.symm
 have b1:W3.heap[w.heap.size+1]?=some (.cells Z 210 (0,0)):=by
  rw[hW3]
  exact bn (by simp[ssz])
 have cx:W3.cell? ⟨x,o,none⟩=some (.slice (some ⟨w.heap.size+1,0,none⟩) N N):=by
  rw[hW3,World.cell?_alloc_lt _ _ _ (by simp[ssz];omega),World.cell?_alloc_lt _ _ _ (by simp[ssz];omega)]
  exact World.cell?_setCell_same _ _ _ hm
 have HIL:Hid ((Tryz.prog.info? 175).map (·.size)=some L.length):=af (by rw[hLl];exact bC)
 have HRL:Hid (W3.rangeAt w.heap.size 0 L):=af (aF b0 rfl)
 have HL2:Hid (L[2]?=some (.int .i64 lt)):=af (by rw[hL,hlt];rfl)
 have HB0:=af b0
 have HB1:=af b1
 have HCX:=af cx
 have HW3:Hid (((w.setCell ⟨x,o,none⟩ (.slice (some ⟨w.heap.size+1,0,none⟩) N N)).alloc (.cells L.toArray 175)).alloc (.cells Z 210)=W3):=af hW3.symm
 have HP9:Hid (p<9000):=af (by omega)
 have p0:(0:Int)≤(p:Int):=by omega
 have p9:(p:Int)<(N:Int):=by omega
 have hxz:x≠w.heap.size:=by omega
 have hxz1:x≠w.heap.size+1:=by omega
 have hxz2:=hxz1.symm
 clear hL hlt hpp hpn hp hN hp9 hZ hmk hmkN b0 b1 cx hW3 ssz hsz1
 go_enter Tryz.func113,Tryz.ntmps113
 go_wp2_with (first
  |(refine oY rfl 81 _ _ rfl _ _ _ _ rfl rfl HMK.out ?_)
  |(rw[HW3.out];refine wpList_load_mid rfl 175 (.tmp 3) rfl w.heap.size 0 rfl L _ HRL.out Tryz.underlying175 rfl HIL.out ?_))
 go_at_call 107
 refine (HP.out _).mono ?_
 rintro e w1 ⟨rfl,hg1⟩
 have HG1:=af hg1
 have hm1:=am hg1 HCX.out
 have bb1:=(hg1.block _ (lt_of_block HB1.out) (by simp)).trans HB1.out
 have hb1:w1.cell? ⟨w.heap.size+1,p*2,none⟩=some (.bool false):=by rw[cell_of_row _ _ _ _ _ _ bb1];exact (HZ.out p HP9.out).1
 have ht1:w1.cell? ⟨w.heap.size+1,p*2+1,none⟩=some (.int .i64 0):=by rw[cell_of_row _ _ _ _ _ _ bb1];exact (HZ.out p HP9.out).2
 have hl1:w1.cell? ⟨w.heap.size,2,none⟩=some (.int .i64 lt):=bc ((hg1.block _ (lt_of_block HB0.out) (by simp)).trans HB0.out) HL2.out
 have hz1:∀ j,w1.frozen? ⟨w.heap.size+1,j,none⟩=false:=ai bb1
 clear hg1 HP bb1
 go_wp2_with fail
 go_region
 all_goals go_wp2_with fail
 all_goals go_returns
 all_goals exact⟨rfl,L.toArray,Z,w1,1,HZ.out,by rw[HW3.out];exact HG1.out,rfl⟩
def jS (mks:Option Nat)(fm:Nat→Option Int)(w:World):Prop:=match mks with
 |none=>∀ p,p<9000→fm p=none
 |some g=>∃ Z,w.heap[g]?=some (.cells Z 210 (0,0))∧∀ p,p<9000→Z[p*2]?=some (.bool (fm p).isSome)∧Z[p*2+1]?=some (.int .i64 ((fm p).getD 0))
theorem jS.grown {mks:Option Nat}{fm:Nat→Option Int}{w w':World}(h:jS mks fm w)(hg:w.grownBy w' none):jS mks fm w':=by
 cases mks with
 |none=>exact h
 |some g=>
  obtain⟨Z,h1,h2⟩:=h
  exact⟨Z,(hg.block g (lt_of_block h1) (by simp)).trans h1,h2⟩
def wC (fm:Nat→Option Int)(i:In):Bool:=(fm (bZ i)).isSome&&((fm (bZ i)).getD 0==ce i.facts)
theorem yU {i:In}(hr:i.rule<9)(hl:i.facts.length≤3):bZ i<9000:=by
 have:=ph hr hl
 unfold bZ
 omega
theorem uL (wt:Int)(i:In)(x o:Nat)(mks:Option Nat)(fm:Nat→Option Int)(w:World)(hr:i.rule<9)(hl:i.facts.length≤3)(hm:w.cell? ⟨x,o,none⟩=some (Fz mks))(hM:jS mks fm w):
  Calls Tryz.prog 83 #[.pointer (some ⟨x,o,none⟩),.agg (aG wt i).toArray] w fun e w'=>e=.returned (.bool (wC fm i))∧w.grownBy w' none:=by
 have hp:=yU hr hl
 cases mks with
 |none=>
  have e:wC fm i=false:=by
   unfold wC
   rw[hM _ hp]
   rfl
  rw[e]
  exact Ai wt i x o w hr hl hm
 |some g=>
  obtain⟨Z,h1,h2⟩:=hM
  obtain⟨a1,a2⟩:=h2 _ hp
  exact Ae wt i x o g 9000 _ _ w hr hl hm rfl (by rw[cell_of_row _ _ _ _ _ _ h1];exact a1) (by rw[cell_of_row _ _ _ _ _ _ h1];exact a2)
theorem xm (b o:Nat)(S:aK)(f:Nat→Int×Option Int)(sl:List Value)(s:ByteArray)(R:List ay)(ra:Option Addr)(rc B:Nat)(fm:Nat→Option Int)(w:World)(h:cJ w b o S)(hsc:jg sl.toArray 60 f)(hM:jS S.mks fm w)
  (hR:∀ r∈R,md s r) (hR9:R.length≤9) (hrow:bS w B s (.slice ra R.length rc) R) :
  Calls Tryz.prog 89 #[.pointer (some ⟨b,o,none⟩),.slice ra R.length rc,.agg sl.toArray] w fun e w'=>e=.returned (.tuple #[.agg (kG (eo s R) (gz (eo s R) (jy s (dj S f 60) R (wC fm) R.length))).toArray,.bool (gz (eo s R) (jy s (dj S f 60) R (wC fm) R.length)).isSome])∧w.grownBy w' none:=by
 have hFl:=iu S f 60
 have hmk:=h.mks
 have hbl:b<w.heap.size:=World.block_lt_of_cell? w _ h.num
 have hsl:sl.length=180:=by have:=hsc.size;simpa using this
 have HSE:Hid (∀ W,w.grownBy W none→Calls Tryz.prog 77 #[.pointer (some ⟨b,o,none⟩),.agg sl.toArray] W fun e w'=>∃ v,e=.returned v∧w'.ownsRow W.heap.size 114 4 v (dj S f 60).length (bE (dj S f 60))∧W.grownBy w' none):=af (fun W hW=>by
  refine sI b o S f sl.toArray W ?_ hsc
  exact⟨am hW h.num,am hW h.snap,am hW h.cnt,fun c hc=>am hW (h.made c hc),fun c hc=>am hW (h.filled c hc),fun c hc=>am hW (h.val c hc),fun c hc=>am hW (h.tm c hc),am hW h.mks,h.ok⟩)
 obtain⟨F,hF⟩:∃ F,F=dj S f 60:=⟨_,rfl⟩
 rw[←hF] at HSE hFl ⊢
 have HFI:Hid (∀ (W:World) (fa:Option Addr) (fc B2:Nat),w.grownBy W none→W.ownsRow B2 114 4 (.slice fa F.length fc) F.length (bE F)→Calls Tryz.prog 111 #[.slice ra R.length rc,.slice fa F.length fc,.pointer (some ⟨b,o+243,none⟩)] W fun e w'=>e=.returned (.tuple #[.agg (kG (eo s R) (gz (eo s R) (jy s F R (wC fm) R.length))).toArray,.bool (gz (eo s R) (jy s F R (wC fm) R.length)).isSome])∧W.grownBy w' none):=af (fun W fa fc B2 hW hfr=>by
  obtain⟨xs,r1,r2⟩:=hrow
  refine yg s F R ra fa rc fc B B2 b (o+243) (wC fm) W hR hR9 ⟨xs,aq r1 hW (fun g hg=>by cases hg),fB hW (fun g hg=>by cases hg) R xs r2⟩ hFl hfr (af (fun k hk i W2 hi hW2=>?_))
  obtain⟨a1,a2⟩:=iF hFl k (hR _ (List.getElem_mem hk)) i hi
  have hg2:=ae hW hW2
  exact uL _ i b (o+243) S.mks fm W2 (by omega) a1 (am hg2 hmk) (hM.grown hg2))
 obtain⟨bi,hbi⟩:∃ bi,bi=gz (eo s R) (jy s F R (wC fm) R.length):=⟨_,rfl⟩
 obtain⟨M,hMM⟩:∃ M,M=kG (eo s R) bi:=⟨_,rfl⟩
 rw[←hbi,←hMM] at HFI ⊢
 have hMl:M.length=24:=by rw[hMM];exact kM _ _
 have HIMs:Hid ((Tryz.prog.info? 175).map (·.size)=some M.toArray.size):=af (by rw[List.size_toArray,hMl];exact bC)
 have HOM:Hid (M.toArray.all (·.oneCell')=true):=af (all_oneCell_toArray (by rw[hMM];exact pq _ _))
 obtain⟨fo,hfo⟩:∃ fo,fo=bi.isSome:=⟨_,rfl⟩
 rw[←hfo] at HFI ⊢
 have HISL:Hid ((Tryz.prog.info? 138).map (·.size)=some sl.length):=af (by rw[hsl];kernel_rfl)
 have HW2:Hid (w.grownBy ((w.alloc (.cells sl.toArray 138)).alloc (.cells #[.int .i64 0,.int .i64 0,.int .i64 0,.int .i64 0,.int .i64 0,.int .i64 0,.int .i64 0,.int .i64 0,.int .i64 0,.int .i64 0,.int .i64 0,.int .i64 0,.int .i64 0,.int .i64 0,.int .i64 0,.int .i64 0,.bool false,.bool false,.bool false,.bool false,.int .i64 0,.int .i64 0,.int .i64 0,.int .i64 0] 175)) none):=af (ab (ab (ag _ _) _) _)
 have HRS:Hid (((w.alloc (.cells sl.toArray 138)).alloc (.cells #[.int .i64 0,.int .i64 0,.int .i64 0,.int .i64 0,.int .i64 0,.int .i64 0,.int .i64 0,.int .i64 0,.int .i64 0,.int .i64 0,.int .i64 0,.int .i64 0,.int .i64 0,.int .i64 0,.int .i64 0,.int .i64 0,.bool false,.bool false,.bool false,.bool false,.int .i64 0,.int .i64 0,.int .i64 0,.int .i64 0] 175)).rangeAt w.heap.size 0 sl):=af (aF ((Below.heap_alloc _ _ _ (by simp)).trans (heap_alloc_new w _)) rfl)
 have HBR:Hid (((w.alloc (.cells sl.toArray 138)).alloc (.cells #[.int .i64 0,.int .i64 0,.int .i64 0,.int .i64 0,.int .i64 0,.int .i64 0,.int .i64 0,.int .i64 0,.int .i64 0,.int .i64 0,.int .i64 0,.int .i64 0,.int .i64 0,.int .i64 0,.int .i64 0,.int .i64 0,.bool false,.bool false,.bool false,.bool false,.int .i64 0,.int .i64 0,.int .i64 0,.int .i64 0] 175)).heap[w.heap.size+1]?=some (.cells ([.int .i64 0,.int .i64 0,.int .i64 0,.int .i64 0,.int .i64 0,.int .i64 0,.int .i64 0,.int .i64 0,.int .i64 0,.int .i64 0,.int .i64 0,.int .i64 0,.int .i64 0,.int .i64 0,.int .i64 0,.int .i64 0,.bool false,.bool false,.bool false,.bool false,.int .i64 0,.int .i64 0,.int .i64 0,.int .i64 0]:List Value).toArray 175 (0,0))):=af (bn (by simp))
 clear h hsc hM hR hrow hF hbi hMM hfo hmk
 go_enter Tryz.func89,Tryz.ntmps89
 go_wp2_with (first
  |(refine wpList_load_mid rfl 138 (.tmp 5) rfl w.heap.size 0 rfl sl _ HRS.out Tryz.underlying138 rfl HISL.out ?_))
 go_at_call 77
 refine (HSE.out _ HW2.out).mono ?_
 rintro e w1 ⟨v,rfl,hown,hg1⟩
 obtain⟨fa,fmm,fc,rfl⟩:=an hown
 have em:=ar hown
 subst em
 have HG1:=af (ae HW2.out hg1)
 have HOW:=af hown
 have hbr1:=(hg1.block _ (lt_of_block HBR.out) (by simp)).trans HBR.out
 have HBR1:=af hbr1
 clear hown hg1 hbr1 HSE
 go_wp2_with fail
 go_at_call 111
 refine (HFI.out _ _ _ _ HG1.out HOW.out).mono ?_
 rintro e w2 ⟨rfl,hg2⟩
 have hbr2:=(hg2.block _ (lt_of_block HBR1.out) (by simp)).trans HBR1.out
 have HTH:Hid (w2.there (w.heap.size+1) 0 M.toArray.size):=af (dJ hbr2 (by simp[hMl]))
 have HBF:Hid ((w2.setCells (w.heap.size+1) 0 M).heap[w.heap.size+1]?=some (.cells M.toArray 175 (0,0))):=af (nO hbr2 (by rw[hMl];rfl))
 have HGF:Hid (w.grownBy (w2.setCells (w.heap.size+1) 0 M) none):=af (cw (by omega) _ _ (ae HG1.out hg2))
 clear hg2 hbr2 HFI
 go_wp2_with (first
  |(refine wpList_store_mid rfl 175 (.tmp 6) (.tmp 18) rfl (w.heap.size+1) 0 M.toArray rfl rfl HTH.out HIMs.out HOM.out ?_))
 refine bodyPost_ret (aO Tryz.results89 rfl HBF.out Tryz.underlying175 rfl HIMs.out rfl) rfl ⟨rfl,HGF.out⟩
structure D7 (b o:Nat)(G:List Nat)(w w':World):Prop where
 fr:Fr (b::G) w w'
 cell:∀ i,(i<o∨o+244≤i)→w'.cell? ⟨b,i,none⟩=w.cell? ⟨b,i,none⟩
 blk:∀ {cs:Array Value} {t:TypeId},w.heap[b]?=some (.cells cs t (0,0))→∃ cs',w'.heap[b]?=some (.cells cs' t (0,0))
theorem FQ {w w':World}{B:Nat}{e:TypeId}{size:Nat}{v:Value}{n:Nat}{xs:List Value}{F:List Nat}(h:w.ownsRow B e size v n xs)(hf:Fr F w w')(hF:∀ g∈F,g<B):w'.ownsRow B e size v n xs:=by
 obtain⟨h1,h2⟩:=h
 refine⟨h1,?_⟩
 rcases h2 with h2|⟨g,cap,cur,rfl,hb,hh,h3⟩
 ·exact .inl h2
 ·exact .inr ⟨g,cap,cur,rfl,hb,(hf.block g (lt_of_block hh) (fun hm=>by have:=hF g hm;omega)).trans hh,h3⟩
def Ft (b o:Nat)(S:aK)(fm:Nat→Option Int)(p:Nat)(t:Int)(w w':World):Prop:=∃ g,cJ w' b o { S with mks:=some g }∧jS (some g) (cI fm p (some t)) w'∧D7 b o S.mks.toList w w'∧g≠b∧(S.mks=some g∨w.heap.size≤g)
theorem sE {Z:Array Value}{fm:Nat→Option Int}{p:Nat}{t:Int}(hp:p<9000)(h:∀ q,q<9000→Z[q*2]?=some (.bool (fm q).isSome)∧Z[q*2+1]?=some (.int .i64 ((fm q).getD 0))):
  ∀ q,q<9000→((Z.setIfInBounds (p*2) (.bool true)).setIfInBounds (p*2+1) (.int .i64 t))[q*2]?=some (.bool (cI fm p (some t) q).isSome)∧((Z.setIfInBounds (p*2) (.bool true)).setIfInBounds (p*2+1) (.int .i64 t))[q*2+1]?=some (.int .i64 ((cI fm p (some t) q).getD 0)):=by
 intro q hq
 have s0:p*2<Z.size:=(Array.getElem?_eq_some_iff.mp (h p hp).1).1
 have s1:p*2+1<Z.size:=(Array.getElem?_eq_some_iff.mp (h p hp).2).1
 by_cases e:q=p
 ·subst e
  rw[aW]
  refine⟨?_,?_⟩
  ·rw[Array.getElem?_setIfInBounds_ne (by omega),Array.getElem?_setIfInBounds_self_of_lt s0]
   rfl
  ·rw[Array.getElem?_setIfInBounds_self_of_lt (by simpa using s1)]
   rfl
 ·rw[bD _ _ _ e]
  refine⟨?_,?_⟩
  ·rw[Array.getElem?_setIfInBounds_ne (by omega),Array.getElem?_setIfInBounds_ne (by omega)]
   exact (h q hq).1
  ·rw[Array.getElem?_setIfInBounds_ne (by omega),Array.getElem?_setIfInBounds_ne (by omega)]
   exact (h q hq).2
theorem rS {w w':World}{b o:Nat}{S:aK}{m:Option Nat}(h:cJ w b o S)(hc:∀ i,i≠o+243→w'.cell? ⟨b,i,none⟩=w.cell? ⟨b,i,none⟩)(hm:w'.cell? ⟨b,o+243,none⟩=some (Fz m)):cJ w' b o { S with mks:=m }:=
 ⟨(hc _ (by omega)).trans h.num,(hc _ (by omega)).trans h.snap,(hc _ (by omega)).trans h.cnt,fun c hl=>(hc _ (by omega)).trans (h.made c hl),fun c hl=>(hc _ (by omega)).trans (h.filled c hl),fun c hl=>(hc _ (by omega)).trans (h.val c hl),fun c hl=>(hc _ (by omega)).trans (h.tm c hl),hm,h.ok⟩
theorem AJ (wt:Int)(i:In)(b o:Nat)(S:aK)(fm:Nat→Option Int)(w:World){cs:Array Value}{ty:TypeId}(hb:w.heap[b]?=some (.cells cs ty (0,0)))(hr:i.rule<9)(hl:i.facts.length≤3)(h:cJ w b o S)(hM:jS S.mks fm w)(hne:S.mks≠some b):
  Calls Tryz.prog 113 #[.pointer (some ⟨b,o+243,none⟩),.agg (aG wt i).toArray] w fun e w'=>e=.returned (.tuple #[])∧Ft b o S fm (bZ i) (ce i.facts) w w':=by
 have hp:=yU hr hl
 have hbl:=lt_of_block hb
 have hmk:=h.mks
 cases hm:S.mks with
 |none=>
  rw[hm] at hmk hM
  refine (AX wt i b (o+243) 9000 w hr hl hmk rfl (ai hb _)).mono ?_
  rintro e w' ⟨rfl,L,Z,w1,m,hZ,hg,rfl⟩
  refine⟨rfl,?_⟩
  have hgb:w.heap.size+1≠b:=by omega
  have hbg:=hgb.symm
  obtain⟨v,hv⟩:∃ v,v=Value.slice (some ⟨w.heap.size+1,0,none⟩) 9000 9000:=⟨_,rfl⟩
  rw[←hv] at hg
  have ssz:(w.setCell ⟨b,o+243,none⟩ v).heap.size=w.heap.size:=by simp[World.setCell]
  have hb3:∀ k,k<w.heap.size→(((w.setCell ⟨b,o+243,none⟩ v).alloc (.cells L 175)).alloc (.cells Z 210)).heap[k]?=(w.setCell ⟨b,o+243,none⟩ v).heap[k]?:=fun k hk=>by
   rw[Below.heap_alloc _ _ _ (by simp[ssz];omega),Below.heap_alloc _ _ _ (by rw[ssz];exact hk)]
  have hblk:∀ k,k<w.heap.size→(((w1.setCell ⟨w.heap.size+1,bZ i*2,none⟩ (.bool true)).setCell ⟨w.heap.size+1,bZ i*2+1,none⟩ (.int .i64 (ce i.facts))).drewN m).heap[k]?=(w.setCell ⟨b,o+243,none⟩ v).heap[k]?:=fun k hk=>by
   show (World.setCell (World.setCell _ _ _) _ _).heap[k]?=_
   rw[jp (by omega),jp (by omega),hg.block k (by simp[ssz];omega) (by simp),hb3 k hk]
  have hcell:∀ j,(((w1.setCell ⟨w.heap.size+1,bZ i*2,none⟩ (.bool true)).setCell ⟨w.heap.size+1,bZ i*2+1,none⟩ (.int .i64 (ce i.facts))).drewN m).cell? ⟨b,j,none⟩=(w.setCell ⟨b,o+243,none⟩ v).cell? ⟨b,j,none⟩:=fun j=>by
   simp only[World.cell?,hblk b hbl]
  have hsz:w.heap.size+1+1≤w1.heap.size:=by
   have:=hg.size
   simp[ssz] at this
   omega
  have hZb:w1.heap[w.heap.size+1]?=some (.cells Z 210 (0,0)):=by
   rw[hg.block (w.heap.size+1) (by simp[ssz]) (by simp)]
   exact bn (by simp[ssz])
  refine⟨w.heap.size+1,rS h (fun j hj=>by rw[hcell,aT hj]) (by rw[hcell,gn hmk,hv];rfl),?_,⟨?_,?_,?_⟩,hgb,.inr (by omega)⟩
  ·refine⟨_,ah (ah hZb (bZ i*2) (.bool true)) (bZ i*2+1) (.int .i64 (ce i.facts)),sE hp (fun q hq=>?_)⟩
   rw[hM q hq]
   exact hZ q hq
  ·have f0:Fr (b::S.mks.toList) w (((w.setCell ⟨b,o+243,none⟩ v).alloc (.cells L 175)).alloc (.cells Z 210)):=(((Fr.refl _ w).set (.inl (by simp)) v).alloc _).alloc _
   have f1:Fr (b::S.mks.toList) w w1:=f0.trans ((aI hg).mono (fun k hk=>by cases hk))
   exact ((f1.set (.inr (by show w.heap.size≤w.heap.size+1;omega)) _).set (.inr (by show w.heap.size≤w.heap.size+1;omega)) _).drewN m
  ·intro j hj
   rw[hcell,aT (by omega)]
  ·intro cs' t' hb'
   exact⟨_,(hblk b hbl).trans (ah hb' _ _)⟩
 |some g=>
  rw[hm] at hmk hM hne
  have hgb:g≠b:=fun e=>hne (by rw[e])
  obtain⟨Z,h1,h2⟩:=hM
  obtain⟨a1,a2⟩:=h2 _ hp
  refine (z9 wt i b (o+243) g 9000 _ _ w hr hl hmk rfl (by rw[cell_of_row _ _ _ _ _ _ h1];exact a1) (by rw[cell_of_row _ _ _ _ _ _ h1];exact a2) (ai h1) hgb.symm).mono ?_
  rintro e w' ⟨rfl,w1,m,hg,rfl⟩
  refine⟨rfl,?_⟩
  have hgl:=lt_of_block h1
  have hblk:∀ k,k<w.heap.size→k≠g→(((w1.setCell ⟨g,bZ i*2,none⟩ (.bool true)).setCell ⟨g,bZ i*2+1,none⟩ (.int .i64 (ce i.facts))).drewN m).heap[k]?=w.heap[k]?:=fun k hk hkg=>by
   show (World.setCell (World.setCell _ _ _) _ _).heap[k]?=_
   rw[jp hkg,jp hkg,hg.block k hk (by simp)]
  have hcell:∀ j,(((w1.setCell ⟨g,bZ i*2,none⟩ (.bool true)).setCell ⟨g,bZ i*2+1,none⟩ (.int .i64 (ce i.facts))).drewN m).cell? ⟨b,j,none⟩=w.cell? ⟨b,j,none⟩:=fun j=>by
   simp only[World.cell?,hblk b hbl hgb.symm]
  have hZb:w1.heap[g]?=some (.cells Z 210 (0,0)):=(hg.block g hgl (by simp)).trans h1
  refine⟨g,rS h (fun j _=>hcell j) (by rw[hcell];exact hmk),?_,⟨?_,fun j _=>hcell j,?_⟩,hgb,.inl hm⟩
  ·exact⟨_,ah (ah hZb (bZ i*2) (.bool true)) (bZ i*2+1) (.int .i64 (ce i.facts)),sE hp h2⟩
  ·have f1:Fr (b::S.mks.toList) w w1:=(aI hg).mono (fun k hk=>by cases hk)
   exact ((f1.set (.inl (by rw[hm];simp)) _).set (.inl (by rw[hm];simp)) _).drewN m
  ·intro cs' t' hb'
   exact⟨_,(hblk b hbl hgb.symm).trans hb'⟩
end Go.Proofs.YthlhbjnkohinmabGreat
