import Derived.Test.YthlhbjnkohinmaaGreatP33
import Derived.Test.YthlhbjnkohinmaaGreatP05
import Derived.Test.YthlhbjnkohinmaaGreatP34
import Derived.Test.YthlhbjnkohinmaaGreatP35
namespace Go.Proofs.YthlhbjnkohinmaaGreat
set_option maxRecDepth 100000
set_option maxHeartbeats 8000000
open Go.RowKit
theorem Dy {s:ByteArray}{i:Nat}{L:List Nat}{j:Nat}{ok:Bool}(h:jA s i L j ok):ok=true→∀ p∈L,b7 s p=true:=by
 refine jA.ind (M:=fun i L j ok=>ok=true→∀ p∈L,b7 s p=true) ?_ ?_ ?_ ?_ ?_ h
 ·intro _ _ h
  cases h
 ·intro _ _ _ h
  cases h
 ·intro _ _ h _ _ p hp
  rw[List.mem_singleton.mp hp]
  exact h
 ·intro _ _ _ _ _ h
  cases h
 ·intro _ _ _ _ _ h _ _ ih e p hp
  rcases List.mem_cons.mp hp with rfl|hp
  ·exact h
  ·exact ih e p hp
theorem Co {s:ByteArray}{i:Nat}{L:List Nat}{j:Nat}{ok:Bool}(h:jY s i L j ok):ok=true→∀ p∈L,cT s p=true:=by
 refine jY.ind (M:=fun i L j ok=>ok=true→∀ p∈L,cT s p=true) ?_ ?_ ?_ ?_ ?_ h
 ·intro _ _ h
  cases h
 ·intro _ _ _ h
  cases h
 ·intro _ _ h _ _ p hp
  rw[List.mem_singleton.mp hp]
  exact h
 ·intro _ _ _ _ _ h
  cases h
 ·intro _ _ _ _ _ h _ _ ih e p hp
  rcases List.mem_cons.mp hp with rfl|hp
  ·exact h
  ·exact ih e p hp
theorem CB {s:ByteArray}{i:Nat}{R:List ay}{j:Nat}{ok:Bool}(h:kS s i R j ok):ok=true→∀ r∈R,bN (bt s r.1)=true∧(∀ p∈r.2.1,b7 s p=true)∧∀ p∈r.2.2,cT s p=true:=by
 refine kS.ind (M:=fun i R j ok=>ok=true→∀ r∈R,bN (bt s r.1)=true∧(∀ p∈r.2.1,b7 s p=true)∧∀ p∈r.2.2,cT s p=true) ?_ ?_ ?_ h
 ·intro _ _ _ r hr
  cases hr
 ·intro _ _ _ _ _ _ h
  cases h
 ·intro i L K j R j' ok _ h1 _ ih e r hr
  rcases List.mem_cons.mp hr with rfl|hr
  ·obtain⟨j1,h3,_,h4,h5⟩:=h1.yes
   exact⟨h3,Dy h4 rfl,Co h5 rfl⟩
  ·exact ih e r hr
structure ou (s:ByteArray)(R:List ay):Prop where
 nine:R.length≤9
 walk:∀ r∈R,l7 s r
 acts:∀ r∈R,(∀ p∈r.2.2,cT s p=true)∧r.2.2.length≤4
 dig:∀ r∈R,bN (bt s r.1)=true
theorem vq {s:ByteArray}{R:List ay}(h:cC s 0 0 (some R)):ou s R:=by
 rcases h with ⟨_,h,_,_⟩|⟨_,_,_,_,h,_⟩|⟨_,_,_,_,_,_,h,_⟩|⟨_,_,_,_,_,_,_,h,_⟩|⟨R',j,h1,h2,h3,h4,_,_,h5⟩
 ·cases h
 ·cases h
 ·cases h
 ·cases h
 ·cases h5
  have hok:=CB h2 rfl
  have hl:R.length≤9:=by
   by_cases hh:R.length≤9
   ·exact hh
   ·have:=(mu h3 9 (by omega)).2.2
    omega
  refine⟨hl,fun r hr=>?_,fun r hr=>?_,fun r hr=>(hok r hr).1⟩
  ·obtain⟨k,hk,e⟩:=List.getElem_of_mem hr
   have h6:=h3 k hk
   have h7:=(mu h3 k hk).1
   rw[e] at h7
   refine⟨(hok r hr).2.1,?_,by omega⟩
   by_cases hp:bM s r.2.1≤3
   ·exact hp
   ·refine absurd ⟨hk,.inr ?_⟩ h6
    rw[e]
    unfold ip
    simp
    omega
  ·obtain⟨k,hk,e⟩:=List.getElem_of_mem hr
   have h7:=(mu h3 k hk).2.1
   rw[e] at h7
   exact⟨(hok r hr).2.2,h7⟩
theorem zm:(Tryz.prog.info? 204).map (·.size)=some 2:=by kernel_rfl
theorem q7 (D X:List Value)(r st:Int)(w:World)(hD:D.length=8)(hX:X.length=3)(x2:X[2]?=some (.int .i64 st))(hr:0≤r∧r≤9)(hst:-1≤st∧st≤1)
  (HOF:Hid (∀ W,Calls Tryz.prog 145 #[.agg D.toArray,.agg (X.take 2).toArray] W fun e w'=>e=.returned (.int .i64 r)∧W.grownBy w' none)) :
  Calls Tryz.prog 138 #[.agg D.toArray,.agg X.toArray] w fun e w'=>e=.returned (.tuple #[.int .i64 (r+st),.bool (decide (0≤r+st)&&decide (r+st<10))])∧w.grownBy w' none:=by
 have hb0:((w.alloc (.cells D.toArray 174)).alloc (.cells X.toArray 217)).heap[w.heap.size]?=some (.cells D.toArray 174 (0,0)):=(Below.heap_alloc _ _ _ (by simp)).trans (heap_alloc_new w _)
 have hb1:((w.alloc (.cells D.toArray 174)).alloc (.cells X.toArray 217)).heap[w.heap.size+1]?=some (.cells X.toArray 217 (0,0)):=bm (by simp)
 obtain⟨M,hM⟩:∃ M,M=X.take 2:=⟨_,rfl⟩
 have hMl:M.length=2:=by rw[hM];simp[hX]
 rw[←hM] at HOF
 have HR0:Hid (((w.alloc (.cells D.toArray 174)).alloc (.cells X.toArray 217)).rangeAt w.heap.size 0 D):=af (aF hb0 rfl)
 have HR1:Hid (((w.alloc (.cells D.toArray 174)).alloc (.cells X.toArray 217)).rangeAt (w.heap.size+1) 0 M):=af (bY hb1 (fun j v hv=>by
  rw[Nat.zero_add]
  have hj:=(List.getElem?_eq_some_iff.1 hv).1
  rw[hMl] at hj
  rw[hM,List.getElem?_take_of_lt hj] at hv
  exact hv))
 have HC2:Hid (((w.alloc (.cells D.toArray 174)).alloc (.cells X.toArray 217)).cell? ⟨w.heap.size+1,2,none⟩=some (.int .i64 st)):=af (bd hb1 x2)
 have HID:Hid ((Tryz.prog.info? 174).map (·.size)=some D.length):=af (by rw[hD];exact gz)
 have HIM:Hid ((Tryz.prog.info? 204).map (·.size)=some M.length):=af (by rw[hMl];exact zm)
 have HG0:Hid (w.grownBy ((w.alloc (.cells D.toArray 174)).alloc (.cells X.toArray 217)) none):=af (ab (ab (ag _ _) _) _)
 have hr0:=hr.1
 have hr9:=hr.2
 have hs0:=hst.1
 have hs1:=hst.2
 have hwr:IntKind.i64.wrap (r+st)=r+st:=Go.IntWalk.i64_in _ (by omega)
 obtain⟨res,hres⟩:∃ res:Bool,res=(decide (0≤r+st)&&decide (r+st<10)):=⟨_,rfl⟩
 rw[←hres]
 have HRES:=af hres
 clear hb0 hb1 x2 hM hr hst hX hres
 go_enter Tryz.func138,Tryz.ntmps138
 go_wp2_with fail
 generalize ((w.alloc (.cells D.toArray 174)).alloc (.cells X.toArray 217))=WA at HR0 HR1 HC2 HG0 ⊢
 refine wp_region_held_drew (S:=fun W=>W.rangeAt w.heap.size 0 D∧W.rangeAt (w.heap.size+1) 0 M∧W.cell? ⟨w.heap.size+1,2,none⟩=some (.int .i64 st)) (by kernel_rfl) ⟨HR0.out,HR1.out,HC2.out⟩ (fun hHeld=>?_)
 refine wpAnyH_take (i:=0) (v:=.agg D.toArray) rfl (by kernel_rfl) (by kernel_rfl) (by kernel_rfl) (fun _ _ _ h=>h) (yieldsIf_load_mid (by rfl) 174 _ rfl (w.heap.size) (0) rfl D _ (fun W hSw=>hSw.1) Tryz.underlying174 rfl HID.out) hHeld ?_
 refine wpAnyH_take (i:=1) (v:=.pointer (some ⟨w.heap.size+1,0,none⟩)) rfl (by kernel_rfl) (by kernel_rfl) (by kernel_rfl) (fun _ _ _ h=>h) (Or.inl ⟨by rfl,?_⟩) hHeld ?_
 ·intro W hSw
  have s1:=hSw.2.2
  go_simp
 refine wpAnyH_take (i:=2) (v:=.agg M.toArray) rfl (by kernel_rfl) (by kernel_rfl) (by kernel_rfl) (fun _ _ _ h=>h) (yieldsIf_load_mid (by rfl) 204 _ rfl (w.heap.size+1) (0) rfl M _ (fun W hSw=>hSw.2.1) Tryz.underlying204 rfl HIM.out) hHeld ?_
 refine wpAnyH_take (i:=4) (v:=.pointer (some ⟨w.heap.size+1,2,none⟩)) rfl (by kernel_rfl) (by kernel_rfl) (by kernel_rfl) (fun _ _ _ h=>h) (Or.inl ⟨by rfl,?_⟩) hHeld ?_
 ·intro W hSw
  have s1:=hSw.2.2
  go_simp
 refine wpAnyH_take (i:=5) (v:=.int .i64 st) rfl (by kernel_rfl) (by kernel_rfl) (by kernel_rfl) (fun _ _ _ h=>h) (Or.inl ⟨by rfl,?_⟩) hHeld ?_
 ·intro W hSw
  have s1:=hSw.2.2
  go_simp
 refine wpAnyH_ready (rs:=[3]) (by kernel_rfl) (by simp) ?_
 refine AllReadyH.cons (o:=_) rfl (fun K hK=>?_) AllReadyH.nil
 go_simp
 go_at_call 145
 refine (HOF.out _).mono ?_
 rintro e w1 ⟨rfl,hg1⟩
 have HG1:Hid (WA.grownBy w1 none):=af (cF (n:=1) hg1)
 clear hg1 HOF
 go_wp2_with fail
 refine hK.out _ _ ⟨di HR0.out HG1.out,di HR1.out HG1.out,am HG1.out HC2.out⟩ (fun hHeld2=>?_)
 clear hK K hHeld
 refine wpAnyH_take (i:=6) (v:=.int .i64 (r+st)) rfl (by kernel_rfl) (by kernel_rfl) (by kernel_rfl) (fun _ _ _ h=>h) (Or.inl ⟨by rfl,?_⟩) hHeld2 ?_
 ·intro W hSw
  have s1:=hSw.2.2
  go_simp
 refine wpAnyH_take (i:=7) (v:=.int .i64 (r+st)) rfl (by kernel_rfl) (by kernel_rfl) (by kernel_rfl) (fun _ _ _ h=>h) (Or.inl ⟨by rfl,?_⟩) hHeld2 ?_
 ·intro W hSw
  have s1:=hSw.2.2
  go_simp
 refine wpAnyH_done (by kernel_rfl) ?_ _
 clear hHeld2
 by_cases h0:0≤r+st
 ·go_wp2_with fail
  go_ret2
  refine⟨?_,ae HG0.out HG1.out⟩
  rw[HRES.out]
  simp[h0]
 ·have h0':decide (0≤r+st)=false:=by simpa using h0
  go_wp2_with fail
  go_ret2
  refine⟨?_,ae HG0.out HG1.out⟩
  rw[HRES.out,h0']
  rfl
theorem lM (D A:List Value)(k c d1 d2:Int)(ok1 ok2:Bool)(w:World)(hD:D.length=8)(hA:A.length=8)(x0:A[0]?=some (.int .i64 k))(x1:A[1]?=some (.int .i64 c))(hk:k=1∨k=2)(hc:0≤c∧c≤5)(hd1:-10≤d1∧d1≤10)
  (HR1:Hid (∀ W,Calls Tryz.prog 138 #[.agg D.toArray,.agg ((A.drop 2).take 3).toArray] W fun e w'=>e=.returned (.tuple #[.int .i64 d1,.bool ok1])∧W.grownBy w' none))
  (HR2:Hid (k=1→∀ W,Calls Tryz.prog 138 #[.agg D.toArray,.agg (A.drop 5).toArray] W fun e w'=>e=.returned (.tuple #[.int .i64 d2,.bool ok2])∧W.grownBy w' none)) :
  Calls Tryz.prog 118 #[.agg D.toArray,.agg A.toArray] w fun e w'=>e=.returned (if ok1 then (if k=1 then .tuple #[.agg #[.int .i64 (c*10+d1),.bool true,.int .i64 d2],.bool ok2] else .tuple #[.agg #[.int .i64 (c*10+d1),.bool false,.int .i64 0],.bool true]) else .tuple #[.agg #[.int .i64 0,.bool false,.int .i64 0],.bool false])∧w.grownBy w' none:=by
 have hb0:(((w.alloc (.cells D.toArray 174)).alloc (.cells A.toArray 219)).alloc (.cells #[.int .i64 0,.bool false,.int .i64 0] 221)).heap[w.heap.size]?=some (.cells D.toArray 174 (0,0)):=by
  rw[Below.heap_alloc _ _ _ (by simp;omega),Below.heap_alloc _ _ _ (by simp)]
  exact heap_alloc_new w _
 have hb1:(((w.alloc (.cells D.toArray 174)).alloc (.cells A.toArray 219)).alloc (.cells #[.int .i64 0,.bool false,.int .i64 0] 221)).heap[w.heap.size+1]?=some (.cells A.toArray 219 (0,0)):=by
  rw[Below.heap_alloc _ _ _ (by simp)]
  exact bm (by simp)
 have hb2:(((w.alloc (.cells D.toArray 174)).alloc (.cells A.toArray 219)).alloc (.cells #[.int .i64 0,.bool false,.int .i64 0] 221)).heap[w.heap.size+1+1]?=some (.cells #[.int .i64 0,.bool false,.int .i64 0] 221 (0,0)):=bm (by simp)
 obtain⟨X,hX⟩:∃ X,X=(A.drop 2).take 3:=⟨_,rfl⟩
 obtain⟨Y,hY⟩:∃ Y,Y=A.drop 5:=⟨_,rfl⟩
 have hXl:X.length=3:=by rw[hX];simp[hA]
 have hYl:Y.length=3:=by rw[hY];simp[hA]
 rw[←hX] at HR1
 rw[←hY] at HR2
 have hXr:∀ j v,X[j]?=some v→A[2+j]?=some v:=fun j v hv=>by
  have hj:=(List.getElem?_eq_some_iff.1 hv).1
  rw[hXl] at hj
  rw[hX,List.getElem?_take_of_lt hj,List.getElem?_drop] at hv
  exact hv
 have hYr:∀ j v,Y[j]?=some v→A[5+j]?=some v:=fun j v hv=>by
  rw[hY,List.getElem?_drop] at hv
  exact hv
 have HD0:Hid ((((w.alloc (.cells D.toArray 174)).alloc (.cells A.toArray 219)).alloc (.cells #[.int .i64 0,.bool false,.int .i64 0] 221)).rangeAt w.heap.size 0 D):=af (aF hb0 rfl)
 have HX0:Hid ((((w.alloc (.cells D.toArray 174)).alloc (.cells A.toArray 219)).alloc (.cells #[.int .i64 0,.bool false,.int .i64 0] 221)).rangeAt (w.heap.size+1) 2 X):=af (bY hb1 hXr)
 have HID:Hid ((Tryz.prog.info? 174).map (·.size)=some D.length):=af (by rw[hD];exact gz)
 have HIX:Hid ((Tryz.prog.info? 217).map (·.size)=some X.length):=af (by rw[hXl];kernel_rfl)
 have HIY:Hid ((Tryz.prog.info? 217).map (·.size)=some Y.length):=af (by rw[hYl];kernel_rfl)
 have HG0:Hid (w.grownBy (((w.alloc (.cells D.toArray 174)).alloc (.cells A.toArray 219)).alloc (.cells #[.int .i64 0,.bool false,.int .i64 0] 221)) none):=af (ab (ab (ab (ag _ _) _) _) _)
 have HB0:=af hb0
 have HB1:=af hb1
 have HB2:=af hb2
 have HX0':=af x0
 have HX1':=af x1
 have HYR:=af hYr
 have hc0:=hc.1
 have hc5:=hc.2
 have hd0:=hd1.1
 have hd9:=hd1.2
 have hm:IntKind.i64.wrap (c*10)=c*10:=Go.IntWalk.i64_in _ (by omega)
 have hs:IntKind.i64.wrap (c*10+d1)=c*10+d1:=Go.IntWalk.i64_in _ (by omega)
 clear hb0 hb1 hb2 hX hY hXr hYr x0 x1 hc hd1 hA
 generalize hRES:(if ok1 then (if k=1 then Value.tuple #[.agg #[.int .i64 (c*10+d1),.bool true,.int .i64 d2],.bool ok2] else .tuple #[.agg #[.int .i64 (c*10+d1),.bool false,.int .i64 0],.bool true]) else .tuple #[.agg #[.int .i64 0,.bool false,.int .i64 0],.bool false])=res
 have HRES:=af hRES
 clear hRES
 go_enter Tryz.func118,Tryz.ntmps118
 go_wp2_with (first
  |(refine wpList_load_mid rfl 174 (.tmp 2) rfl w.heap.size 0 rfl D _ HD0.out Tryz.underlying174 rfl HID.out ?_)
  |(refine wpList_load_mid rfl 217 (.tmp 12) rfl (w.heap.size+1) 2 rfl X _ HX0.out Tryz.underlying217 rfl HIX.out ?_))
 go_at_call 138
 refine (HR1.out _).mono ?_
 rintro e w1 ⟨rfl,hg1⟩
 have hB0:=(hg1.block _ (lt_of_block HB0.out) (by simp)).trans HB0.out
 have hB1:=(hg1.block _ (lt_of_block HB1.out) (by simp)).trans HB1.out
 have hB2:=(hg1.block _ (lt_of_block HB2.out) (by simp)).trans HB2.out
 have HG1:Hid (w.grownBy w1 none):=af (ae HG0.out hg1)
 have HBB2:=af hB2
 have l1:=lt_of_block hB1
 have l2:=lt_of_block hB2
 have hsw:w.heap.size≤w.heap.size+1+1:=by omega
 clear hg1 HB0 HB1 HB2 HG0 HD0 HX0 HR1
 have n0:w.heap.size+1+1≠w1.heap.size:=by omega
 have n1:w.heap.size+1≠w1.heap.size:=by omega
 have n2:w.heap.size+1≠w.heap.size+1+1:=by omega
 have z0:∀ i,w1.frozen? ⟨w.heap.size+1+1,i,none⟩=false:=ai hB2
 have q0:w1.cell? ⟨w.heap.size+1+1,0,none⟩=some (.int .i64 0):=by rw[cell_of_row _ _ _ _ _ _ hB2];rfl
 have q1:w1.cell? ⟨w.heap.size+1+1,1,none⟩=some (.bool false):=by rw[cell_of_row _ _ _ _ _ _ hB2];rfl
 have q2:w1.cell? ⟨w.heap.size+1+1,2,none⟩=some (.int .i64 0):=by rw[cell_of_row _ _ _ _ _ _ hB2];rfl
 have p0:w1.cell? ⟨w.heap.size+1,0,none⟩=some (.int .i64 k):=bd hB1 HX0'.out
 have p1:w1.cell? ⟨w.heap.size+1,1,none⟩=some (.int .i64 c):=bd hB1 HX1'.out
 have HS:Hid (∀ W i v,w.grownBy W none→w.grownBy (W.setCell ⟨w.heap.size+1+1,i,none⟩ v) none):=af (fun W i v h=>aj h (.inr (by show w.heap.size≤w.heap.size+1+1;omega)) _)
 cases ok1 with
 |false=>
  go_wp2_with fail
  refine bodyPost_ret (aO Tryz.results118 rfl (ah (ah (ah HBB2.out _ _) _ _) _ _) Tryz.underlying221 rfl (by kernel_rfl) rfl) rfl ⟨?_,HS.out _ _ _ (HS.out _ _ _ (HS.out _ _ _ HG1.out))⟩
  rw[←HRES.out]
  rfl
 |true=>
  rcases hk with rfl|rfl
  ·have HR2':=af (HR2.out rfl)
   have HYY:Hid (∀ W,w1.grownBy W none→W.rangeAt (w.heap.size+1) 5 Y∧W.rangeAt w.heap.size 0 D):=af (fun W hW=>⟨bY ((hW.block _ l1 (by simp)).trans hB1) HYR.out,aF ((hW.block _ (lt_of_block hB0) (by simp)).trans hB0) rfl⟩)
   have HG2:Hid (w1.grownBy (w1.alloc (.cells #[.int .i64 (c*10+d1),.bool false,.int .i64 0] 221)) none):=af (ab (ag _ _) _)
   have HY1:=af ((HYY.out _ HG2.out).1)
   have HD1:=af ((HYY.out _ HG2.out).2)
   have hbe:(w1.alloc (.cells #[.int .i64 (c*10+d1),.bool false,.int .i64 0] 221)).heap[w1.heap.size]?=some (.cells #[.int .i64 (c*10+d1),.bool false,.int .i64 0] 221 (0,0)):=heap_alloc_new w1 _
   have HBE:=af hbe
   clear hbe HR2
   go_wp2_with (first
    |(refine wpList_load_mid rfl 174 (.tmp 2) rfl w.heap.size 0 rfl D _ HD1.out Tryz.underlying174 rfl HID.out ?_)
    |(refine wpList_load_mid rfl 217 (.tmp 32) rfl (w.heap.size+1) 5 rfl Y _ HY1.out Tryz.underlying217 rfl HIY.out ?_))
   go_at_call 138
   refine (HR2'.out _).mono ?_
   rintro e w2 ⟨rfl,hg2⟩
   have hE:=(hg2.block _ (lt_of_block HBE.out) (by simp)).trans HBE.out
   have h22:=(hg2.block _ (by simp;omega) (by simp)).trans ((Below.heap_alloc w1 _ _ l2).trans HBB2.out)
   have HB22:=af h22
   have HGG:Hid (w.grownBy w2 none):=af (ae HG1.out (ae HG2.out hg2))
   have e0:w2.cell? ⟨w1.heap.size,0,none⟩=some (.int .i64 (c*10+d1)):=by rw[cell_of_row _ _ _ _ _ _ hE];rfl
   have e1:w2.cell? ⟨w1.heap.size,1,none⟩=some (.bool false):=by rw[cell_of_row _ _ _ _ _ _ hE];rfl
   have e2:w2.cell? ⟨w1.heap.size,2,none⟩=some (.int .i64 0):=by rw[cell_of_row _ _ _ _ _ _ hE];rfl
   have ze:∀ i,w2.frozen? ⟨w1.heap.size,i,none⟩=false:=ai hE
   have z2:∀ i,w2.frozen? ⟨w.heap.size+1+1,i,none⟩=false:=ai h22
   have r0:w2.cell? ⟨w.heap.size+1+1,0,none⟩=some (.int .i64 0):=by rw[cell_of_row _ _ _ _ _ _ h22];rfl
   have r1:w2.cell? ⟨w.heap.size+1+1,1,none⟩=some (.bool false):=by rw[cell_of_row _ _ _ _ _ _ h22];rfl
   have r2:w2.cell? ⟨w.heap.size+1+1,2,none⟩=some (.int .i64 0):=by rw[cell_of_row _ _ _ _ _ _ h22];rfl
   have n0':=n0.symm
   have HS1:Hid (∀ W i v,w.grownBy W none→w.grownBy (W.setCell ⟨w1.heap.size,i,none⟩ v) none):=af (fun W i v h=>aj h (.inr (by show w.heap.size≤w1.heap.size;exact HG1.out.size)) _)
   clear hg2 hE h22 HR2' HY1 HD1 HYY hB0 hB1 hB2
   go_wp2_with fail
   refine bodyPost_ret (aO Tryz.results118 rfl (ah (ah (ah ((jm n0).trans ((jm n0).trans HB22.out)) _ _) _ _) _ _) Tryz.underlying221 rfl (by kernel_rfl) rfl) rfl ⟨?_,HS.out _ _ _ (HS.out _ _ _ (HS.out _ _ _ (HS1.out _ _ _ (HS1.out _ _ _ HGG.out))))⟩
   rw[←HRES.out]
   rfl
  ·have hne:¬((2:Int)=1):=by omega
   go_wp2_with fail
   refine bodyPost_ret (aO Tryz.results118 rfl ((Below.heap_alloc _ _ _ (by simpa [World.setCell] using l2)).trans (ah (ah (ah HBB2.out _ _) _ _) _ _)) Tryz.underlying221 rfl (by kernel_rfl) rfl) rfl ⟨?_,ab (HS.out _ _ _ (HS.out _ _ _ (HS.out _ _ _ HG1.out))) _⟩
   rw[←HRES.out]
   rfl
def qM (s:ByteArray)(e:fu)(p:Nat):Option (Nat×Option Int):=
 if bt s p=43 then
  (if (0≤fG 0 e (bt s (p+2))+hJ (bt s (p+3))∧fG 0 e (bt s (p+2))+hJ (bt s (p+3))<10)∧0≤fG 0 e (bt s (db s (p+2)))+hJ (bt s (db s (p+2)+1))∧fG 0 e (bt s (db s (p+2)))+hJ (bt s (db s (p+2)+1))<10
   then some (((bt s (p+1) - 97)*10+(fG 0 e (bt s (p+2))+hJ (bt s (p+3)))).toNat,some (fG 0 e (bt s (db s (p+2)))+hJ (bt s (db s (p+2)+1)))) else none)
 else (if 0≤fG 0 e (bt s (p+2))+hJ (bt s (p+3))∧fG 0 e (bt s (p+2))+hJ (bt s (p+3))<10
   then some (((bt s (p+1) - 97)*10+(fG 0 e (bt s (p+2))+hJ (bt s (p+3)))).toNat,none) else none)
def gb (s:ByteArray)(e:fu)(K:List Nat):Option (List (Nat×Option Int)×Bool):=K.foldl (fun o p=>o.bind fun q=>if bt s p=46 then some (q.1,true) else (qM s e p).map fun x=>(q.1++[x],q.2)) (some ([],false))
theorem oe (s:ByteArray)(e:fu)(K:List Nat)(j:Nat)(hj:j<K.length):gb s e (K.take (j+1))=(gb s e (K.take j)).bind fun q=>if bt s K[j]=46 then some (q.1,true) else (qM s e K[j]).map fun x=>(q.1++[x],q.2):=by
 unfold gb
 rw[List.take_succ_eq_append_getElem hj,List.foldl_append]
 rfl
theorem Bc (s:ByteArray)(e:fu)(K:List Nat):∀ j,gb s e (K.take j)=none→gb s e K=none:=by
 intro j h
 have:∀ (l:List Nat),l.foldl (fun o p=>o.bind fun q=>if bt s p=46 then some (q.1,true) else (qM s e p).map fun x=>(q.1++[x],q.2)) (none:Option (List (Nat×Option Int)×Bool))=none:=by
  intro l
  induction l with
  |nil=>rfl
  |cons p l ih=>exact ih
 unfold gb at h ⊢
 rw[←List.take_append_drop j K,List.foldl_append,h]
 exact this _
theorem lg (s:ByteArray)(e:fu)(K:List Nat):∀ j,j≤K.length→∀ q,gb s e (K.take j)=some q→q.1.length≤j
 |0,_,q,h=>by
  have:q=([],false):=by simpa [gb] using h.symm
  rw[this]
  simp
 |j+1,hj,q,h=>by
  rw[oe s e K j (by omega)] at h
  cases ho:gb s e (K.take j) with
  |none=>rw[ho] at h;cases h
  |some r=>
   have ih:=lg s e K j (by omega) r ho
   rw[ho] at h
   simp only[Option.bind_some] at h
   split at h
   ·cases h;simp only;omega
   ·cases hx:qM s e (K[j]'(by omega)) with
    |none=>rw[hx] at h;cases h
    |some x=>
     rw[hx] at h
     cases h
     simp only[List.length_append,List.length_cons,List.length_nil]
     omega
def Eq (q:Nat×Option Int):List Value:=[.int .i64 q.1,.bool q.2.isSome,.int .i64 (q.2.getD 0)]
def Cf (l:List (Nat×Option Int)):List Value:=l.flatMap Eq
theorem yy (q:Nat×Option Int):∀ v∈Eq q,v.oneCell'=true:=by
 intro v hv
 simp only[Eq,List.mem_cons,List.not_mem_nil,or_false] at hv
 rcases hv with h|h|h <;> rw[h] <;> rfl
def w8 (s:ByteArray)(p:Nat):List Value:=[.int .i64 (eh s p).k,.int .i64 (eh s p).c,.int .i64 (eh s p).a1,.int .i64 (eh s p).a2,.int .i64 (eh s p).a3,.int .i64 (eh s p).b1,.int .i64 (eh s p).b2,.int .i64 (eh s p).b3]
theorem EZ (s:ByteArray)(p:Nat):∀ v∈w8 s p,v.oneCell'=true:=by
 intro v hv
 simp only[w8,List.mem_cons,List.not_mem_nil,or_false] at hv
 rcases hv with h|h|h|h|h|h|h|h <;> rw[h] <;> rfl
theorem tu (c:Int):-1≤hJ c∧hJ c≤1:=by
 unfold hJ
 split
 ·omega
 ·split <;> omega
theorem tA {e:fu}{t:Int}(_hs:be t=true)(he:∀ n v,e n=some v→0≤v∧v≤9):0≤fG 0 e t∧fG 0 e t≤9:=by
 unfold fG
 split
 ·rename_i h
  simp[bN] at h
  omega
 ·cases h:e (t - 119).toNat with
  |none=>simp
  |some v=>
   have:=he _ v h
   simpa using this
theorem kV (e:fu)(t u:Int)(w:World)(hs:be t=true)(he:∀ n v,e n=some v→0≤v∧v≤9):
  Calls Tryz.prog 138 #[.agg (nL e).toArray,.agg #[.int .i64 (dy t),.int .i64 (dE t),.int .i64 (hJ u)]] w fun r w'=>r=.returned (.tuple #[.int .i64 (fG 0 e t+hJ u),.bool (decide (0≤fG 0 e t+hJ u)&&decide (fG 0 e t+hJ u<10))])∧w.grownBy w' none:=
 q7 (nL e) [.int .i64 (dy t),.int .i64 (dE t),.int .i64 (hJ u)] (fG 0 e t) (hJ u) w rfl rfl rfl (tA hs he) (tu u) (af (fun W=>by
  refine (qH (dB e 0) (dB e 1) (dB e 2) (dB e 3) _ _ _ _ _ _ _ W (pz e t hs)).mono ?_
  rintro r w' ⟨rfl,rfl⟩
  exact⟨rfl,ab (ab (ag _ _) _) _⟩))
def B9 (s:ByteArray)(e:fu)(p:Nat)(v:Value):Prop:=match qM s e p with
 |some x=>v=.tuple #[.agg (Eq x).toArray,.bool true]
 |none=>∃ c b d,v=.tuple #[.agg #[.int .i64 c,.bool b,.int .i64 d],.bool false]
theorem uv (s:ByteArray)(e:fu)(p:Nat)(w:World)(hok:cT s p=true)(h46:bt s p≠46)(he:∀ n v,e n=some v→0≤v∧v≤9):
  Calls Tryz.prog 118 #[.agg (nL e).toArray,.agg (w8 s p).toArray] w fun r w'=>(∃ v,r=.returned v∧B9 s e p v)∧w.grownBy w' none:=by
 unfold cT at hok
 by_cases h43:bt s p=43
 ·rw[if_pos h43] at hok
  unfold fJ at hok
  simp only[Bool.and_eq_true] at hok
  obtain⟨⟨h1,h2'⟩,h3'⟩:=hok
  have h2:be (bt s (p+2))=true:=h2'
  have h3:be (bt s (db s (p+2)))=true:=h3'
  have ea:eh s p=wK s (p+1):=by simp[eh,h43]
  have hc:0≤bt s (p+1) - 97∧bt s (p+1) - 97≤5:=by simp[aR] at h1;omega
  have b1:=tA h2 he
  have b2:=tu (bt s (p+3))
  have b3:=tA h3 he
  have b4:=tu (bt s (db s (p+2)+1))
  have:=lM (nL e) (w8 s p) 1 (bt s (p+1) - 97) (fG 0 e (bt s (p+2))+hJ (bt s (p+3))) (fG 0 e (bt s (db s (p+2)))+hJ (bt s (db s (p+2)+1))) _ _ w rfl rfl (by rw[w8,ea];rfl) (by rw[w8,ea];rfl) (.inl rfl) hc (by omega)
   (af (fun W=>by
    have:=kV e (bt s (p+2)) (bt s (p+3)) W h2 he
    unfold w8
    rw[ea]
    exact this))
   (af (fun _ W=>by
    have:=kV e (bt s (db s (p+2))) (bt s (db s (p+2)+1)) W h3 he
    unfold w8
    rw[ea]
    exact this))
  refine this.mono ?_
  rintro r w' ⟨rfl,hg⟩
  refine⟨⟨_,rfl,?_⟩,hg⟩
  unfold B9 qM
  rw[if_pos h43]
  generalize fG 0 e (bt s (p+2))+hJ (bt s (p+3))=d at*
  generalize fG 0 e (bt s (db s (p+2)))+hJ (bt s (db s (p+2)+1))=v at*
  by_cases hd:0≤d∧d<10
  ·by_cases hv:0≤v∧v<10
   ·rw[if_pos ⟨hd,hv⟩]
    simp[Eq,hd,hv]
    omega
   ·rw[if_neg (fun h=>hv h.2)]
    have hv':(decide (0≤v)&&decide (v<10))=false:=by simpa using hv
    simp[hd,hv']
  ·rw[if_neg (fun h=>hd h.1)]
   have hd':(decide (0≤d)&&decide (d<10))=false:=by simpa using hd
   simp[hd']
 ·rw[if_neg h43] at hok
  by_cases h45:bt s p=45
  ·rw[if_pos h45] at hok
   unfold gm at hok
   simp only[Bool.and_eq_true] at hok
   obtain⟨h1,h2'⟩:=hok
   have h2:be (bt s (p+2))=true:=h2'
   have ea:eh s p=wo s (p+1):=by simp[eh,h45]
   have hc:0≤bt s (p+1) - 97∧bt s (p+1) - 97≤5:=by simp[aR] at h1;omega
   have b1:=tA h2 he
   have b2:=tu (bt s (p+3))
   have:=lM (nL e) (w8 s p) 2 (bt s (p+1) - 97) (fG 0 e (bt s (p+2))+hJ (bt s (p+3))) 0 _ false w rfl rfl (by rw[w8,ea];rfl) (by rw[w8,ea];rfl) (.inr rfl) hc (by omega)
    (af (fun W=>by
     have:=kV e (bt s (p+2)) (bt s (p+3)) W h2 he
     unfold w8
     rw[ea]
     exact this))
    (af (fun h=>by omega))
   refine this.mono ?_
   rintro r w' ⟨rfl,hg⟩
   refine⟨⟨_,rfl,?_⟩,hg⟩
   unfold B9 qM
   rw[if_neg h43]
   generalize fG 0 e (bt s (p+2))+hJ (bt s (p+3))=d at*
   by_cases hd:0≤d∧d<10
   ·rw[if_pos hd]
    simp[Eq,hd]
    omega
   ·rw[if_neg hd]
    have hd':(decide (0≤d)&&decide (d<10))=false:=by simpa using hd
    simp[hd']
  ·rw[if_neg h45] at hok
   simp at hok
   exact absurd hok h46
end Go.Proofs.YthlhbjnkohinmaaGreat
