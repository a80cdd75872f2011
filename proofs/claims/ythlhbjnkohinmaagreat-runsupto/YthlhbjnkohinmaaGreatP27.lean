import Derived.Test.YthlhbjnkohinmaaGreatP26
import Derived.Test.YthlhbjnkohinmaaGreatP19
import Derived.Lib.AppendStr
import Derived.Laws.IdiomStrings
namespace Go.Proofs.YthlhbjnkohinmaaGreat
set_option maxRecDepth 100000
set_option maxHeartbeats 8000000
open Go.RowKit
theorem pP {P:Program} (w:World) (t e:TypeId) (ad:Option Addr) (n c i sz:Nat) (hu:P.underlying t=some (.slice e)) (hi:(P.info? e).map (·.size)=some sz) (h1:i≤c) :
  (Instr.sliceAt t (.slice ad n c) none (some (.int .i64 i)) none).run P w=.ok (.slice ad i c) w:=by
 cases hq:P.info? e with
 |none=>simp[hq] at hi
 |some d=>
  have g2:ad.map (fun x=>x.add 0)=ad:=by cases ad <;> simp[Addr.add]
  simp[Instr.sliceAt,Instr.slice,Instr.sliceBounds,Instr.sliceBound,underlying,sizeOf,typeInfo,hu,hq,asIntOf,g2]
  intro h
  omega
theorem mW {P:Program} {ops:Array Oper} {rest:List Oper} {op:Oper} {a:Act} {w:World} {Q:Exit→Act→World→Prop} (hgd:op.guard=none) (t e:TypeId) (x y:Operand) (ho:op.op=.slice t x none (some y) none)
  (ad:Option Addr) (n c i sz:Nat) (hx:a.eval x=.slice ad n c) (hy:a.eval y=.int .i64 i) (h1:i≤c) (hu:P.underlying t=some (.slice e)) (hi:(P.info? e).map (·.size)=some sz)
  (h:wpList P ops Q rest (a.put op.dst (.slice ad i c)) w):wpList P ops Q (op::rest) a w:=
 wpList_plain hgd fun _ hK=>by
  unfold Oper.wp execOp
  have:=pP (P:=P) w t e ad n c i sz hu hi h1
  simp only[ho,hx,hy,Option.map_some,Option.map_none,Sem.run_bind,Sem.run_pure,this,Result.andThen_ok]
  exact hK _ _ h
theorem v7 (wt:Nat→Int):w8 (iZ wt):=by
 refine⟨fun {a b c} h1 h2=>?_,fun {a b c} h1 h2=>?_,fun a=>?_⟩
 ·unfold iZ Dm at*
  split at h1 <;> split at h2 <;> split <;> simp only[decide_eq_true_eq] at*<;> omega
 ·unfold iZ Dm at*
  split at h1 <;> split at h2 <;> split <;> simp only[decide_eq_false_iff_not] at*<;> omega
 ·unfold iZ Dm
  simp
theorem tf (wt:Nat→Int):∀ (n:Nat) (l:List In) (g o c:Nat) (w:World),l.length=n→n≤2160000→0<n→n≤c→g<w.heap.size→w.rangeAt g o (cC wt l)→
  Calls Tryz.prog 61 #[.slice (some ⟨g,o,none⟩) l.length c] w fun e w'=>∃ g' o' c',e=.returned (.slice (some ⟨g',o',none⟩) l.length c')∧l.length≤c'∧g'<w'.heap.size∧w'.rangeAt g' o' (cC wt (bK (iZ wt) l))∧w.grownBy w' none:=by
 intro n
 induction n using Nat.strongRecOn with
 |_ n ih=>
  intro l g o c w hln hn hn0 hc hgl hrg
  by_cases h2:n<2
  ·have hl1:l.length=1:=by omega
   obtain⟨x,rfl⟩:=List.length_eq_one_iff.mp hl1
   have HR:=af hrg
   have HE:Hid (bK (iZ wt) [x]=[x]):=af rfl
   have hc1:1≤c:=by omega
   clear ih hrg hl1 hln
   simp only[List.length_cons,List.length_nil,Nat.zero_add]
   go_enter Tryz.func61,Tryz.ntmps61
   go_wp2_with fail
   go_ret
   exact⟨g,o,c,rfl,hc1,hgl,by rw[HE.out];exact HR.out,ag _ _⟩
  ·obtain⟨hf,hhf⟩:∃ hf,hf=n / 2:=⟨_,rfl⟩
   have hf1:0<hf:=by omega
   have hf2:hf<n:=by omega
   have hL1:(l.take hf).length=hf:=by rw[List.length_take];omega
   have hL2:(l.drop hf).length=n - hf:=by rw[List.length_drop];omega
   have hsp:cC wt l=cC wt (l.take hf)++cC wt (l.drop hf):=by rw[←jH,List.take_append_drop]
   have hr1:w.rangeAt g o (cC wt (l.take hf)):=fun j v hv=>hrg j v (by
    rw[hsp,List.getElem?_append_left (List.getElem?_eq_some_iff.1 hv).1]
    exact hv)
   have hr2:w.rangeAt g (o+hf*24) (cC wt (l.drop hf)):=fun j v hv=>by
    have:=hrg (hf*24+j) v (by
     rw[hsp,List.getElem?_append_right (by rw[kV,hL1];omega),kV,hL1,show hf*24+j - hf*24=j by omega]
     exact hv)
    rw[←Nat.add_assoc] at this
    exact this
   have H1:Hid (Calls Tryz.prog 61 #[.slice (some ⟨g,o,none⟩) hf c] w fun e w'=>∃ g' o' c',e=.returned (.slice (some ⟨g',o',none⟩) hf c')∧hf≤c'∧g'<w'.heap.size∧w'.rangeAt g' o' (cC wt (bK (iZ wt) (l.take hf)))∧w.grownBy w' none):=af (by
    have:=ih hf hf2 (l.take hf) g o c w hL1 (by omega) hf1 (by omega) hgl hr1
    rw[hL1] at this
    exact this)
   have H2:Hid (∀ W,w.grownBy W none→Calls Tryz.prog 61 #[.slice (some ⟨g,o+hf*24,none⟩) (n - hf) (c - hf)] W fun e w'=>∃ g' o' c',e=.returned (.slice (some ⟨g',o',none⟩) (n - hf) c')∧n - hf≤c'∧g'<w'.heap.size∧w'.rangeAt g' o' (cC wt (bK (iZ wt) (l.drop hf)))∧W.grownBy w' none):=af (fun W hW=>by
    have:=ih (n - hf) (by omega) (l.drop hf) g (o+hf*24) (c - hf) W hL2 (by omega) (by omega) (by omega) (Nat.lt_of_lt_of_le hgl hW.size) (de hr2 hW)
    rw[hL2] at this
    exact this)
   have HM:Hid (∀ (g1 o1 c1 g2 o2 c2:Nat) (W:World),hf≤c1→n - hf≤c2→g1<W.heap.size→g2<W.heap.size→W.rangeAt g1 o1 (cC wt (bK (iZ wt) (l.take hf)))→W.rangeAt g2 o2 (cC wt (bK (iZ wt) (l.drop hf)))→Calls Tryz.prog 90 #[.slice (some ⟨g1,o1,none⟩) hf c1,.slice (some ⟨g2,o2,none⟩) (n - hf) c2] W fun e w'=>∃ v,e=.returned v∧w'.ownsRow W.heap.size 176 24 v n (cC wt (bK (iZ wt) l))∧W.grownBy w' none):=af (fun g1 o1 c1 g2 o2 c2 W a1 a2 a3 a4 a5 a6=>by
    have:=uE wt (bK (iZ wt) (l.take hf)) (bK (iZ wt) (l.drop hf)) g1 o1 c1 g2 o2 c2 W (by rw[dO];omega) (by rw[dO];omega) (by rw[dO];omega) (by rw[dO];omega) a3 a4 a5 a6
    rw[BM (v7 wt),List.take_append_drop,dO,dO,dO,hL1,hL2,hln] at this
    exact this)
   have hq:Int.tdiv (n:Int) 2=(hf:Int):=by rw[Int.tdiv_eq_ediv_of_nonneg (by omega),hhf];omega
   have HII:Hid ((Tryz.prog.info? 176).map (·.size)=some 24):=af bD
   have HAD:Hid ((if c=hf then some (⟨g,o,none⟩:Addr) else (some (⟨g,o,none⟩:Addr)).map (·.add (hf*24)))=some ⟨g,o+hf*24,none⟩):=af (by
    rw[if_neg (by omega)]
    show some (Addr.add ⟨g,o,none⟩ (hf*24))=_
    unfold Addr.add
    rw[if_neg (by omega)])
   have HLN:=af hln
   rw[hln]
   clear ih hln hhf hL1 hL2 hsp hr1 hr2 hrg
   go_enter Tryz.func61,Tryz.ntmps61
   go_wp2_with (first
    |(refine mW rfl 125 176 (.tmp 13) (.tmp 14) rfl _ _ _ hf 24 rfl rfl (by omega) Tryz.underlying125 HII.out ?_))
   go_at_call 61
   refine H1.out.mono ?_
   rintro e w1 ⟨g1,o1,c1,rfl,q1,q2,q3,q4⟩
   have HQ3:=af q3
   have HQ4:=af q4
   clear q3 q4
   go_wp2_with (first
    |(refine dX rfl 125 176 (.tmp 17) (.tmp 18) rfl _ _ _ hf 24 rfl rfl (by omega) Tryz.underlying125 HII.out ?_;rw[HAD.out]))
   go_at_call 61
   refine (H2.out _ HQ4.out).mono ?_
   rintro e w2 ⟨g2,o2,c2,rfl,s1,s2,s3,s4⟩
   have HS3:=af s3
   have HS4:=af s4
   have q5:g1<w2.heap.size:=by have:=s4.size;omega
   clear s3 s4
   go_wp2_with fail
   go_at_call 90
   refine (HM.out g1 o1 c1 g2 o2 c2 _ q1 s1 q5 s2 (de HQ3.out HS4.out) HS3.out).mono ?_
   rintro e w3 ⟨v,rfl,ho,hg3⟩
   obtain⟨va,vm,vc,rfl⟩:=an ho
   have em:=ar ho
   subst em
   have hcap:=tz ho
   obtain⟨g3,rfl,_,_,hgl3,hcell⟩:=aC ho (by omega)
   have HC:Hid (w3.rangeAt g3 0 (cC wt (bK (iZ wt) l))):=af (fun j v hv=>by rw[Nat.zero_add];exact hcell j v hv)
   have HG3:Hid (w.grownBy w3 none):=af (ae HQ4.out (ae HS4.out hg3))
   clear ho hg3 hcell
   go_wp2_with fail
   go_ret
   exact⟨g3,0,vc,rfl,hcap,hgl3,HC.out,HG3.out⟩
theorem rz (c:Nat) (a:Option Addr) (w:World) :
  Calls Tryz.prog 61 #[.slice a 0 c] w fun e w'=>e=.returned (.slice a 0 c)∧w'=w:=by
 go_enter Tryz.func61,Tryz.ntmps61
 go_wp2_with fail
 go_ret
 exact⟨rfl,rfl⟩
theorem A9:(Tryz.prog.info? 204).map (·.size)=some 2:=by kernel_rfl
theorem qY (D X:List Value) (r st:Int) (w:World) (hD:D.length=8) (hX:X.length=3) (x2:X[2]?=some (.int .i64 st)) (hr:0≤r∧r≤9) (hst:-1≤st∧st≤1)
  (HOF:Hid (∀ W,Calls Tryz.prog 145 #[.agg D.toArray,.agg (X.take 2).toArray] W fun e w'=>e=.returned (.int .i64 r)∧W.grownBy w' none)) :
  Calls Tryz.prog 138 #[.agg D.toArray,.agg X.toArray] w fun e w'=>e=.returned (.tuple #[.int .i64 (r+st),.bool (decide (0≤r+st)&&decide (r+st<10))])∧w.grownBy w' none:=by
 have hb0:((w.alloc (.cells D.toArray 174)).alloc (.cells X.toArray 217)).heap[w.heap.size]?=some (.cells D.toArray 174 (0,0)):=(Below.heap_alloc _ _ _ (by simp)).trans (heap_alloc_new w _)
 have hb1:((w.alloc (.cells D.toArray 174)).alloc (.cells X.toArray 217)).heap[w.heap.size+1]?=some (.cells X.toArray 217 (0,0)):=bm (by simp)
 obtain⟨M,hM⟩:∃ M,M=X.take 2:=⟨_,rfl⟩
 have hMl:M.length=2:=by rw[hM];simp[hX]
 rw[←hM] at HOF
 have HR0:Hid (((w.alloc (.cells D.toArray 174)).alloc (.cells X.toArray 217)).rangeAt w.heap.size 0 D):=af (aE hb0 rfl)
 have HR1:Hid (((w.alloc (.cells D.toArray 174)).alloc (.cells X.toArray 217)).rangeAt (w.heap.size+1) 0 M):=af (bU hb1 (fun j v hv=>by
  rw[Nat.zero_add]
  have hj:=(List.getElem?_eq_some_iff.1 hv).1
  rw[hMl] at hj
  rw[hM,List.getElem?_take_of_lt hj] at hv
  exact hv))
 have HC2:Hid (((w.alloc (.cells D.toArray 174)).alloc (.cells X.toArray 217)).cell? ⟨w.heap.size+1,2,none⟩=some (.int .i64 st)):=af (be hb1 x2)
 have HID:Hid ((Tryz.prog.info? 174).map (·.size)=some D.length):=af (by rw[hD];exact gz)
 have HIM:Hid ((Tryz.prog.info? 204).map (·.size)=some M.length):=af (by rw[hMl];exact A9)
 have HG0:Hid (w.grownBy ((w.alloc (.cells D.toArray 174)).alloc (.cells X.toArray 217)) none):=af (ab (ab (ag _ _) _) _)
 have hr0:=hr.1
 have hr9:=hr.2
 have hs0:=hst.1
 have hs1:=hst.2
 have hwr:IntKind.i64.wrap (r+st)=r+st:=Go.IntWalk.i64_in _ (by omega)
 obtain⟨res,hres⟩:∃ res:Bool,res=(decide (0≤r+st)&&decide (r+st<10)):=⟨_,rfl⟩
 rw[←hres]
 have HRES:=af hres
 clear hb0 hb1 x2 hM hr hst hX hres
 go_enter Tryz.func138,Tryz.ntmps138
 go_wp2_with fail
 generalize ((w.alloc (.cells D.toArray 174)).alloc (.cells X.toArray 217))=WA at HR0 HR1 HC2 HG0 ⊢
 refine wp_region_held_drew (S:=fun W=>W.rangeAt w.heap.size 0 D∧W.rangeAt (w.heap.size+1) 0 M∧W.cell? ⟨w.heap.size+1,2,none⟩=some (.int .i64 st)) (by kernel_rfl) ⟨HR0.out,HR1.out,HC2.out⟩ (fun hHeld=>?_)
 refine wpAnyH_take (i:=0) (v:=.agg D.toArray) rfl (by kernel_rfl) (by kernel_rfl) (by kernel_rfl) (fun _ _ _ h=>h) (yieldsIf_load_mid (by rfl) 174 _ rfl (w.heap.size) (0) rfl D _ (fun W hSw=>hSw.1) Tryz.underlying174 rfl HID.out) hHeld ?_
 refine wpAnyH_take (i:=1) (v:=.pointer (some ⟨w.heap.size+1,0,none⟩)) rfl (by kernel_rfl) (by kernel_rfl) (by kernel_rfl) (fun _ _ _ h=>h) (Or.inl ⟨by rfl,?_⟩) hHeld ?_
 ·intro W hSw
  have s1:=hSw.2.2
  go_simp
 refine wpAnyH_take (i:=2) (v:=.agg M.toArray) rfl (by kernel_rfl) (by kernel_rfl) (by kernel_rfl) (fun _ _ _ h=>h) (yieldsIf_load_mid (by rfl) 204 _ rfl (w.heap.size+1) (0) rfl M _ (fun W hSw=>hSw.2.1) Tryz.underlying204 rfl HIM.out) hHeld ?_
 refine wpAnyH_take (i:=4) (v:=.pointer (some ⟨w.heap.size+1,2,none⟩)) rfl (by kernel_rfl) (by kernel_rfl) (by kernel_rfl) (fun _ _ _ h=>h) (Or.inl ⟨by rfl,?_⟩) hHeld ?_
 ·intro W hSw
  have s1:=hSw.2.2
  go_simp
 refine wpAnyH_take (i:=5) (v:=.int .i64 st) rfl (by kernel_rfl) (by kernel_rfl) (by kernel_rfl) (fun _ _ _ h=>h) (Or.inl ⟨by rfl,?_⟩) hHeld ?_
 ·intro W hSw
  have s1:=hSw.2.2
  go_simp
 refine wpAnyH_ready (rs:=[3]) (by kernel_rfl) (by simp) ?_
 refine AllReadyH.cons (o:=_) rfl (fun K hK=>?_) AllReadyH.nil
 go_simp
 go_at_call 145
 refine (HOF.out _).mono ?_
 rintro e w1 ⟨rfl,hg1⟩
 have HG1:Hid (WA.grownBy w1 none):=af (cF (n:=1) hg1)
 clear hg1 HOF
 go_wp2_with fail
 refine hK.out _ _ ⟨de HR0.out HG1.out,de HR1.out HG1.out,am HG1.out HC2.out⟩ (fun hHeld2=>?_)
 clear hK K hHeld
 refine wpAnyH_take (i:=6) (v:=.int .i64 (r+st)) rfl (by kernel_rfl) (by kernel_rfl) (by kernel_rfl) (fun _ _ _ h=>h) (Or.inl ⟨by rfl,?_⟩) hHeld2 ?_
 ·intro W hSw
  have s1:=hSw.2.2
  go_simp
 refine wpAnyH_take (i:=7) (v:=.int .i64 (r+st)) rfl (by kernel_rfl) (by kernel_rfl) (by kernel_rfl) (fun _ _ _ h=>h) (Or.inl ⟨by rfl,?_⟩) hHeld2 ?_
 ·intro W hSw
  have s1:=hSw.2.2
  go_simp
 refine wpAnyH_done (by kernel_rfl) ?_ _
 clear hHeld2
 by_cases h0:0≤r+st
 ·go_wp2_with fail
  go_ret2
  refine⟨?_,ae HG0.out HG1.out⟩
  rw[HRES.out]
  simp[h0]
 ·have h0':decide (0≤r+st)=false:=by simpa using h0
  go_wp2_with fail
  go_ret2
  refine⟨?_,ae HG0.out HG1.out⟩
  rw[HRES.out,h0']
  rfl
theorem lM (D A:List Value) (k c d1 d2:Int) (ok1 ok2:Bool) (w:World) (hD:D.length=8) (hA:A.length=8) (x0:A[0]?=some (.int .i64 k)) (x1:A[1]?=some (.int .i64 c)) (hk:k=1∨k=2) (hc:0≤c∧c≤5) (hd1:-10≤d1∧d1≤10)
  (HR1:Hid (∀ W,Calls Tryz.prog 138 #[.agg D.toArray,.agg ((A.drop 2).take 3).toArray] W fun e w'=>e=.returned (.tuple #[.int .i64 d1,.bool ok1])∧W.grownBy w' none))
  (HR2:Hid (k=1→∀ W,Calls Tryz.prog 138 #[.agg D.toArray,.agg (A.drop 5).toArray] W fun e w'=>e=.returned (.tuple #[.int .i64 d2,.bool ok2])∧W.grownBy w' none)) :
  Calls Tryz.prog 118 #[.agg D.toArray,.agg A.toArray] w fun e w'=>e=.returned (if ok1 then (if k=1 then .tuple #[.agg #[.int .i64 (c*10+d1),.bool true,.int .i64 d2],.bool ok2] else .tuple #[.agg #[.int .i64 (c*10+d1),.bool false,.int .i64 0],.bool true]) else .tuple #[.agg #[.int .i64 0,.bool false,.int .i64 0],.bool false])∧w.grownBy w' none:=by
 have hb0:(((w.alloc (.cells D.toArray 174)).alloc (.cells A.toArray 219)).alloc (.cells #[.int .i64 0,.bool false,.int .i64 0] 221)).heap[w.heap.size]?=some (.cells D.toArray 174 (0,0)):=by
  rw[Below.heap_alloc _ _ _ (by simp;omega),Below.heap_alloc _ _ _ (by simp)]
  exact heap_alloc_new w _
 have hb1:(((w.alloc (.cells D.toArray 174)).alloc (.cells A.toArray 219)).alloc (.cells #[.int .i64 0,.bool false,.int .i64 0] 221)).heap[w.heap.size+1]?=some (.cells A.toArray 219 (0,0)):=by
  rw[Below.heap_alloc _ _ _ (by simp)]
  exact bm (by simp)
 have hb2:(((w.alloc (.cells D.toArray 174)).alloc (.cells A.toArray 219)).alloc (.cells #[.int .i64 0,.bool false,.int .i64 0] 221)).heap[w.heap.size+1+1]?=some (.cells #[.int .i64 0,.bool false,.int .i64 0] 221 (0,0)):=bm (by simp)
 obtain⟨X,hX⟩:∃ X,X=(A.drop 2).take 3:=⟨_,rfl⟩
 obtain⟨Y,hY⟩:∃ Y,Y=A.drop 5:=⟨_,rfl⟩
 have hXl:X.length=3:=by rw[hX];simp[hA]
 have hYl:Y.length=3:=by rw[hY];simp[hA]
 rw[←hX] at HR1
 rw[←hY] at HR2
 have hXr:∀ j v,X[j]?=some v→A[2+j]?=some v:=fun j v hv=>by
  have hj:=(List.getElem?_eq_some_iff.1 hv).1
  rw[hXl] at hj
  rw[hX,List.getElem?_take_of_lt hj,List.getElem?_drop] at hv
  exact hv
 have hYr:∀ j v,Y[j]?=some v→A[5+j]?=some v:=fun j v hv=>by
  rw[hY,List.getElem?_drop] at hv
  exact hv
 have HD0:Hid ((((w.alloc (.cells D.toArray 174)).alloc (.cells A.toArray 219)).alloc (.cells #[.int .i64 0,.bool false,.int .i64 0] 221)).rangeAt w.heap.size 0 D):=af (aE hb0 rfl)
 have HX0:Hid ((((w.alloc (.cells D.toArray 174)).alloc (.cells A.toArray 219)).alloc (.cells #[.int .i64 0,.bool false,.int .i64 0] 221)).rangeAt (w.heap.size+1) 2 X):=af (bU hb1 hXr)
 have HID:Hid ((Tryz.prog.info? 174).map (·.size)=some D.length):=af (by rw[hD];exact gz)
 have HIX:Hid ((Tryz.prog.info? 217).map (·.size)=some X.length):=af (by rw[hXl];kernel_rfl)
 have HIY:Hid ((Tryz.prog.info? 217).map (·.size)=some Y.length):=af (by rw[hYl];kernel_rfl)
 have HG0:Hid (w.grownBy (((w.alloc (.cells D.toArray 174)).alloc (.cells A.toArray 219)).alloc (.cells #[.int .i64 0,.bool false,.int .i64 0] 221)) none):=af (ab (ab (ab (ag _ _) _) _) _)
 have HB0:=af hb0
 have HB1:=af hb1
 have HB2:=af hb2
 have HX0':=af x0
 have HX1':=af x1
 have HYR:=af hYr
 have hc0:=hc.1
 have hc5:=hc.2
 have hd0:=hd1.1
 have hd9:=hd1.2
 have hm:IntKind.i64.wrap (c*10)=c*10:=Go.IntWalk.i64_in _ (by omega)
 have hs:IntKind.i64.wrap (c*10+d1)=c*10+d1:=Go.IntWalk.i64_in _ (by omega)
 clear hb0 hb1 hb2 hX hY hXr hYr x0 x1 hc hd1 hA
 generalize hRES:(if ok1 then (if k=1 then Value.tuple #[.agg #[.int .i64 (c*10+d1),.bool true,.int .i64 d2],.bool ok2] else .tuple #[.agg #[.int .i64 (c*10+d1),.bool false,.int .i64 0],.bool true]) else .tuple #[.agg #[.int .i64 0,.bool false,.int .i64 0],.bool false])=res
 have HRES:=af hRES
 clear hRES
 go_enter Tryz.func118,Tryz.ntmps118
 go_wp2_with (first
  |(refine wpList_load_mid rfl 174 (.tmp 2) rfl w.heap.size 0 rfl D _ HD0.out Tryz.underlying174 rfl HID.out ?_)
  |(refine wpList_load_mid rfl 217 (.tmp 12) rfl (w.heap.size+1) 2 rfl X _ HX0.out Tryz.underlying217 rfl HIX.out ?_))
 go_at_call 138
 refine (HR1.out _).mono ?_
 rintro e w1 ⟨rfl,hg1⟩
 have hB0:=(hg1.block _ (lt_of_block HB0.out) (by simp)).trans HB0.out
 have hB1:=(hg1.block _ (lt_of_block HB1.out) (by simp)).trans HB1.out
 have hB2:=(hg1.block _ (lt_of_block HB2.out) (by simp)).trans HB2.out
 have HG1:Hid (w.grownBy w1 none):=af (ae HG0.out hg1)
 have HBB2:=af hB2
 have l1:=lt_of_block hB1
 have l2:=lt_of_block hB2
 have hsw:w.heap.size≤w.heap.size+1+1:=by omega
 clear hg1 HB0 HB1 HB2 HG0 HD0 HX0 HR1
 have n0:w.heap.size+1+1≠w1.heap.size:=by omega
 have n1:w.heap.size+1≠w1.heap.size:=by omega
 have n2:w.heap.size+1≠w.heap.size+1+1:=by omega
 have z0:∀ i,w1.frozen? ⟨w.heap.size+1+1,i,none⟩=false:=ai hB2
 have q0:w1.cell? ⟨w.heap.size+1+1,0,none⟩=some (.int .i64 0):=by rw[cell_of_row _ _ _ _ _ _ hB2];rfl
 have q1:w1.cell? ⟨w.heap.size+1+1,1,none⟩=some (.bool false):=by rw[cell_of_row _ _ _ _ _ _ hB2];rfl
 have q2:w1.cell? ⟨w.heap.size+1+1,2,none⟩=some (.int .i64 0):=by rw[cell_of_row _ _ _ _ _ _ hB2];rfl
 have p0:w1.cell? ⟨w.heap.size+1,0,none⟩=some (.int .i64 k):=be hB1 HX0'.out
 have p1:w1.cell? ⟨w.heap.size+1,1,none⟩=some (.int .i64 c):=be hB1 HX1'.out
 have HS:Hid (∀ W i v,w.grownBy W none→w.grownBy (W.setCell ⟨w.heap.size+1+1,i,none⟩ v) none):=af (fun W i v h=>aj h (.inr (by show w.heap.size≤w.heap.size+1+1;omega)) _)
 cases ok1 with
 |false=>
  go_wp2_with fail
  refine bodyPost_ret (aN Tryz.results118 rfl (ah (ah (ah HBB2.out _ _) _ _) _ _) Tryz.underlying221 rfl (by kernel_rfl) rfl) rfl ⟨?_,HS.out _ _ _ (HS.out _ _ _ (HS.out _ _ _ HG1.out))⟩
  rw[←HRES.out]
  rfl
 |true=>
  rcases hk with rfl|rfl
  ·have HR2':=af (HR2.out rfl)
   have HYY:Hid (∀ W,w1.grownBy W none→W.rangeAt (w.heap.size+1) 5 Y∧W.rangeAt w.heap.size 0 D):=af (fun W hW=>⟨bU ((hW.block _ l1 (by simp)).trans hB1) HYR.out,aE ((hW.block _ (lt_of_block hB0) (by simp)).trans hB0) rfl⟩)
   have HG2:Hid (w1.grownBy (w1.alloc (.cells #[.int .i64 (c*10+d1),.bool false,.int .i64 0] 221)) none):=af (ab (ag _ _) _)
   have HY1:=af ((HYY.out _ HG2.out).1)
   have HD1:=af ((HYY.out _ HG2.out).2)
   have hbe:(w1.alloc (.cells #[.int .i64 (c*10+d1),.bool false,.int .i64 0] 221)).heap[w1.heap.size]?=some (.cells #[.int .i64 (c*10+d1),.bool false,.int .i64 0] 221 (0,0)):=heap_alloc_new w1 _
   have HBE:=af hbe
   clear hbe HR2
   go_wp2_with (first
    |(refine wpList_load_mid rfl 174 (.tmp 2) rfl w.heap.size 0 rfl D _ HD1.out Tryz.underlying174 rfl HID.out ?_)
    |(refine wpList_load_mid rfl 217 (.tmp 32) rfl (w.heap.size+1) 5 rfl Y _ HY1.out Tryz.underlying217 rfl HIY.out ?_))
   go_at_call 138
   refine (HR2'.out _).mono ?_
   rintro e w2 ⟨rfl,hg2⟩
   have hE:=(hg2.block _ (lt_of_block HBE.out) (by simp)).trans HBE.out
   have h22:=(hg2.block _ (by simp;omega) (by simp)).trans ((Below.heap_alloc w1 _ _ l2).trans HBB2.out)
   have HB22:=af h22
   have HGG:Hid (w.grownBy w2 none):=af (ae HG1.out (ae HG2.out hg2))
   have e0:w2.cell? ⟨w1.heap.size,0,none⟩=some (.int .i64 (c*10+d1)):=by rw[cell_of_row _ _ _ _ _ _ hE];rfl
   have e1:w2.cell? ⟨w1.heap.size,1,none⟩=some (.bool false):=by rw[cell_of_row _ _ _ _ _ _ hE];rfl
   have e2:w2.cell? ⟨w1.heap.size,2,none⟩=some (.int .i64 0):=by rw[cell_of_row _ _ _ _ _ _ hE];rfl
   have ze:∀ i,w2.frozen? ⟨w1.heap.size,i,none⟩=false:=ai hE
   have z2:∀ i,w2.frozen? ⟨w.heap.size+1+1,i,none⟩=false:=ai h22
   have r0:w2.cell? ⟨w.heap.size+1+1,0,none⟩=some (.int .i64 0):=by rw[cell_of_row _ _ _ _ _ _ h22];rfl
   have r1:w2.cell? ⟨w.heap.size+1+1,1,none⟩=some (.bool false):=by rw[cell_of_row _ _ _ _ _ _ h22];rfl
   have r2:w2.cell? ⟨w.heap.size+1+1,2,none⟩=some (.int .i64 0):=by rw[cell_of_row _ _ _ _ _ _ h22];rfl
   have n0':=n0.symm
   have HS1:Hid (∀ W i v,w.grownBy W none→w.grownBy (W.setCell ⟨w1.heap.size,i,none⟩ v) none):=af (fun W i v h=>aj h (.inr (by show w.heap.size≤w1.heap.size;exact HG1.out.size)) _)
   clear hg2 hE h22 HR2' HY1 HD1 HYY hB0 hB1 hB2
   go_wp2_with fail
   refine bodyPost_ret (aN Tryz.results118 rfl (ah (ah (ah ((jh n0).trans ((jh n0).trans HB22.out)) _ _) _ _) _ _) Tryz.underlying221 rfl (by kernel_rfl) rfl) rfl ⟨?_,HS.out _ _ _ (HS.out _ _ _ (HS.out _ _ _ (HS1.out _ _ _ (HS1.out _ _ _ HGG.out))))⟩
   rw[←HRES.out]
   rfl
  ·have hne:¬((2:Int)=1):=by omega
   go_wp2_with fail
   refine bodyPost_ret (aN Tryz.results118 rfl ((Below.heap_alloc _ _ _ (by simpa [World.setCell] using l2)).trans (ah (ah (ah HBB2.out _ _) _ _) _ _)) Tryz.underlying221 rfl (by kernel_rfl) rfl) rfl ⟨?_,ab (HS.out _ _ _ (HS.out _ _ _ (HS.out _ _ _ HG1.out))) _⟩
   rw[←HRES.out]
   rfl
theorem j4 (a b:ByteArray):Lib.strCells (a++b)=Lib.strCells a++Lib.strCells b:=by
 unfold Lib.strCells
 rw[ByteArray.data_append,Array.toList_append,List.map_append]
theorem sY {n:Int} (h0:0≤n) (h1:n≤255):Lib.strCells (strOfNums [n])=[.int .u8 n]:=by
 have e:(UInt8.ofNat n.toNat).toNat=n.toNat:=by
  rw[UInt8.toNat_ofNat']
  omega
 simp[Lib.strCells,strOfNums,e]
 omega
theorem q9:Lib.strCells ⟨#[59]⟩=[.int .u8 59]:=rfl
theorem Tryz.infoB:(Tryz.prog.info? 5).map (fun i=>(i.zero,i.size,i.bytes))=some (some (.int .u8 0),1,1):=by kernel_rfl
theorem wF {w:World} {B:Nat} {v:Value} {s:ByteArray} (h:w.ownsRow B 5 1 v s.size (Lib.strCells s)):(convert 160 9 v).run Tryz.prog w=.ok (.string s) w:=by
 obtain⟨a,m,c,rfl⟩:=an h
 have em:=ar h
 subst em
 by_cases hz:s.size=0
 ·have hs:s=ByteArray.empty:=by
   have:s.data=#[]:=Array.eq_empty_of_size_eq_zero hz
   cases s
   simp only at this
   rw[this]
   rfl
  rw[run_convert_bytes_string w _ _ 5 a s.size c Tryz.underlying160 Tryz.underlying5 Tryz.underlying9,hz]
  cases a with
  |none=>rw[hs];rfl
  |some ad=>
   rw[hs]
   have:=run_bytesToString (P:=Tryz.prog) w ad 0 c [] (by simp[loadCells,loadCellsFrom])
   simpa using this
 ·obtain⟨g,rfl,_,_,_,hcell⟩:=aC h (by omega)
  have:=run_convert_bytes_back (P:=Tryz.prog) w 160 9 5 ⟨g,0,none⟩ c s.data.toList Tryz.underlying160 Tryz.underlying5 Tryz.underlying9 (fun j hj=>by
   have hadd:(⟨g,0,none⟩:Addr).add j=⟨g,j,none⟩:=by unfold Addr.add;split <;> simp_all
   rw[hadd]
   refine hcell j _ ?_
   unfold Lib.strCells
   rw[List.getElem?_map,List.getElem?_eq_getElem hj]
   rfl)
  have e1:s.data.toList.length=s.size:=by rw[Array.length_toList];rfl
  have e2:(⟨s.data.toList.toArray⟩:ByteArray)=s:=by cases s;simp
  rw[e1,e2] at this
  exact this
end Go.Proofs.YthlhbjnkohinmaaGreat
