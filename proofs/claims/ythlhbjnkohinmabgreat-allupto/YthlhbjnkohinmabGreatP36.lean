import Derived.Test.YthlhbjnkohinmabGreatP33
import Derived.Test.YthlhbjnkohinmabGreatP05
import Derived.Test.YthlhbjnkohinmabGreatP34
import Derived.Test.YthlhbjnkohinmabGreatP35
namespace Go.Proofs.YthlhbjnkohinmabGreat
set_option maxRecDepth 100000
set_option maxHeartbeats 8000000
open Go.RowKit
theorem Dq {s:ByteArray}{i:Nat}{L:List Nat}{j:Nat}{ok:Bool}(h:jA s i L j ok):ok=true→∀ p∈L,b9 s p=true:=by
 refine jA.ind (M:=fun i L j ok=>ok=true→∀ p∈L,b9 s p=true) ?_ ?_ ?_ ?_ ?_ h
 ·intro _ _ h
  cases h
 ·intro _ _ _ h
  cases h
 ·intro _ _ h _ _ p hp
  rw[List.mem_singleton.mp hp]
  exact h
 ·intro _ _ _ _ _ h
  cases h
 ·intro _ _ _ _ _ h _ _ ih e p hp
  rcases List.mem_cons.mp hp with rfl|hp
  ·exact h
  ·exact ih e p hp
theorem Dn {s:ByteArray}{i:Nat}{L:List Nat}{j:Nat}{ok:Bool}(h:jY s i L j ok):ok=true→∀ p∈L,cU s p=true:=by
 refine jY.ind (M:=fun i L j ok=>ok=true→∀ p∈L,cU s p=true) ?_ ?_ ?_ ?_ ?_ h
 ·intro _ _ h
  cases h
 ·intro _ _ _ h
  cases h
 ·intro _ _ h _ _ p hp
  rw[List.mem_singleton.mp hp]
  exact h
 ·intro _ _ _ _ _ h
  cases h
 ·intro _ _ _ _ _ h _ _ ih e p hp
  rcases List.mem_cons.mp hp with rfl|hp
  ·exact h
  ·exact ih e p hp
theorem Cz {s:ByteArray}{i:Nat}{R:List ay}{j:Nat}{ok:Bool}(h:kP s i R j ok):ok=true→∀ r∈R,bM (bt s r.1)=true∧(∀ p∈r.2.1,b9 s p=true)∧∀ p∈r.2.2,cU s p=true:=by
 refine kP.ind (M:=fun i R j ok=>ok=true→∀ r∈R,bM (bt s r.1)=true∧(∀ p∈r.2.1,b9 s p=true)∧∀ p∈r.2.2,cU s p=true) ?_ ?_ ?_ h
 ·intro _ _ _ r hr
  cases hr
 ·intro _ _ _ _ _ _ h
  cases h
 ·intro i L K j R j' ok _ h1 _ ih e r hr
  rcases List.mem_cons.mp hr with rfl|hr
  ·obtain⟨j1,h3,_,h4,h5⟩:=h1.yes
   exact⟨h3,Dq h4 rfl,Dn h5 rfl⟩
  ·exact ih e r hr
structure n7 (s:ByteArray)(R:List ay):Prop where
 nine:R.length≤9
 walk:∀ r∈R,md s r
 acts:∀ r∈R,(∀ p∈r.2.2,cU s p=true)∧r.2.2.length≤4
 dig:∀ r∈R,bM (bt s r.1)=true
theorem vS {s:ByteArray}{R:List ay}(h:cE s 0 0 (some R)):n7 s R:=by
 rcases h with ⟨_,h,_,_⟩|⟨_,_,_,_,h,_⟩|⟨_,_,_,_,_,_,h,_⟩|⟨_,_,_,_,_,_,_,h,_⟩|⟨R',j,h1,h2,h3,h4,_,_,h5⟩
 ·cases h
 ·cases h
 ·cases h
 ·cases h
 ·cases h5
  have hok:=Cz h2 rfl
  have hl:R.length≤9:=by
   by_cases hh:R.length≤9
   ·exact hh
   ·have:=(mj h3 9 (by omega)).2.2
    omega
  refine⟨hl,fun r hr=>?_,fun r hr=>?_,fun r hr=>(hok r hr).1⟩
  ·obtain⟨k,hk,e⟩:=List.getElem_of_mem hr
   have h6:=h3 k hk
   have h7:=(mj h3 k hk).1
   rw[e] at h7
   refine⟨(hok r hr).2.1,?_,by omega⟩
   by_cases hp:bL s r.2.1≤3
   ·exact hp
   ·refine absurd ⟨hk,.inr ?_⟩ h6
    rw[e]
    unfold iq
    simp
    omega
  ·obtain⟨k,hk,e⟩:=List.getElem_of_mem hr
   have h7:=(mj h3 k hk).2.1
   rw[e] at h7
   exact⟨(hok r hr).2.2,h7⟩
theorem Aj:(Tryz.prog.info? 203).map (·.size)=some 2:=by kernel_rfl
theorem rA (D X:List Value)(r st:Int)(w:World)(hD:D.length=8)(hX:X.length=3)(x2:X[2]?=some (.int .i64 st))(hr:0≤r∧r≤9)(hst:-1≤st∧st≤1)
  (HOF:Hid (∀ W,Calls Tryz.prog 139 #[.agg D.toArray,.agg (X.take 2).toArray] W fun e w'=>e=.returned (.int .i64 r)∧W.grownBy w' none)) :
  Calls Tryz.prog 132 #[.agg D.toArray,.agg X.toArray] w fun e w'=>e=.returned (.tuple #[.int .i64 (r+st),.bool (decide (0≤r+st)&&decide (r+st<10))])∧w.grownBy w' none:=by
 have hb0:((w.alloc (.cells D.toArray 173)).alloc (.cells X.toArray 216)).heap[w.heap.size]?=some (.cells D.toArray 173 (0,0)):=(Below.heap_alloc _ _ _ (by simp)).trans (heap_alloc_new w _)
 have hb1:((w.alloc (.cells D.toArray 173)).alloc (.cells X.toArray 216)).heap[w.heap.size+1]?=some (.cells X.toArray 216 (0,0)):=bn (by simp)
 obtain⟨M,hM⟩:∃ M,M=X.take 2:=⟨_,rfl⟩
 have hMl:M.length=2:=by rw[hM];simp[hX]
 rw[←hM] at HOF
 have HR0:Hid (((w.alloc (.cells D.toArray 173)).alloc (.cells X.toArray 216)).rangeAt w.heap.size 0 D):=af (aF hb0 rfl)
 have HR1:Hid (((w.alloc (.cells D.toArray 173)).alloc (.cells X.toArray 216)).rangeAt (w.heap.size+1) 0 M):=af (bX hb1 (fun j v hv=>by
  rw[Nat.zero_add]
  have hj:=(List.getElem?_eq_some_iff.1 hv).1
  rw[hMl] at hj
  rw[hM,List.getElem?_take_of_lt hj] at hv
  exact hv))
 have HC2:Hid (((w.alloc (.cells D.toArray 173)).alloc (.cells X.toArray 216)).cell? ⟨w.heap.size+1,2,none⟩=some (.int .i64 st)):=af (bc hb1 x2)
 have HID:Hid ((Tryz.prog.info? 173).map (·.size)=some D.length):=af (by rw[hD];exact gA)
 have HIM:Hid ((Tryz.prog.info? 203).map (·.size)=some M.length):=af (by rw[hMl];exact Aj)
 have HG0:Hid (w.grownBy ((w.alloc (.cells D.toArray 173)).alloc (.cells X.toArray 216)) none):=af (ab (ab (ag _ _) _) _)
 have hr0:=hr.1
 have hr9:=hr.2
 have hs0:=hst.1
 have hs1:=hst.2
 have hwr:IntKind.i64.wrap (r+st)=r+st:=Go.IntWalk.i64_in _ (by omega)
 obtain⟨res,hres⟩:∃ res:Bool,res=(decide (0≤r+st)&&decide (r+st<10)):=⟨_,rfl⟩
 rw[←hres]
 have HRES:=af hres
 clear hb0 hb1 x2 hM hr hst hX hres
 go_enter Tryz.func132,Tryz.ntmps132
 go_wp2_with fail
 generalize ((w.alloc (.cells D.toArray 173)).alloc (.cells X.toArray 216))=WA at HR0 HR1 HC2 HG0 ⊢
 refine wp_region_held_drew (S:=fun W=>W.rangeAt w.heap.size 0 D∧W.rangeAt (w.heap.size+1) 0 M∧W.cell? ⟨w.heap.size+1,2,none⟩=some (.int .i64 st)) (by kernel_rfl) ⟨HR0.out,HR1.out,HC2.out⟩ (fun hHeld=>?_)
 refine wpAnyH_take (i:=0) (v:=.agg D.toArray) rfl (by kernel_rfl) (by kernel_rfl) (by kernel_rfl) (fun _ _ _ h=>h) (yieldsIf_load_mid (by rfl) 173 _ rfl (w.heap.size) (0) rfl D _ (fun W hSw=>hSw.1) Tryz.underlying173 rfl HID.out) hHeld ?_
 refine wpAnyH_take (i:=1) (v:=.pointer (some ⟨w.heap.size+1,0,none⟩)) rfl (by kernel_rfl) (by kernel_rfl) (by kernel_rfl) (fun _ _ _ h=>h) (Or.inl ⟨by rfl,?_⟩) hHeld ?_
 ·intro W hSw
  have s1:=hSw.2.2
  go_simp
 refine wpAnyH_take (i:=2) (v:=.agg M.toArray) rfl (by kernel_rfl) (by kernel_rfl) (by kernel_rfl) (fun _ _ _ h=>h) (yieldsIf_load_mid (by rfl) 203 _ rfl (w.heap.size+1) (0) rfl M _ (fun W hSw=>hSw.2.1) Tryz.underlying203 rfl HIM.out) hHeld ?_
 refine wpAnyH_take (i:=4) (v:=.pointer (some ⟨w.heap.size+1,2,none⟩)) rfl (by kernel_rfl) (by kernel_rfl) (by kernel_rfl) (fun _ _ _ h=>h) (Or.inl ⟨by rfl,?_⟩) hHeld ?_
 ·intro W hSw
  have s1:=hSw.2.2
  go_simp
 refine wpAnyH_take (i:=5) (v:=.int .i64 st) rfl (by kernel_rfl) (by kernel_rfl) (by kernel_rfl) (fun _ _ _ h=>h) (Or.inl ⟨by rfl,?_⟩) hHeld ?_
 ·intro W hSw
  have s1:=hSw.2.2
  go_simp
 refine wpAnyH_ready (rs:=[3]) (by kernel_rfl) (by simp) ?_
 refine AllReadyH.cons (o:=_) rfl (fun K hK=>?_) AllReadyH.nil
 go_simp
 go_at_call 139
 refine (HOF.out _).mono ?_
 rintro e w1 ⟨rfl,hg1⟩
 have HG1:Hid (WA.grownBy w1 none):=af (cD (n:=1) hg1)
 clear hg1 HOF
 go_wp2_with fail
 refine hK.out _ _ ⟨di HR0.out HG1.out,di HR1.out HG1.out,am HG1.out HC2.out⟩ (fun hHeld2=>?_)
 clear hK K hHeld
 refine wpAnyH_take (i:=6) (v:=.int .i64 (r+st)) rfl (by kernel_rfl) (by kernel_rfl) (by kernel_rfl) (fun _ _ _ h=>h) (Or.inl ⟨by rfl,?_⟩) hHeld2 ?_
 ·intro W hSw
  have s1:=hSw.2.2
  go_simp
 refine wpAnyH_take (i:=7) (v:=.int .i64 (r+st)) rfl (by kernel_rfl) (by kernel_rfl) (by kernel_rfl) (fun _ _ _ h=>h) (Or.inl ⟨by rfl,?_⟩) hHeld2 ?_
 ·intro W hSw
  have s1:=hSw.2.2
  go_simp
 refine wpAnyH_done (by kernel_rfl) ?_ _
 clear hHeld2
 by_cases h0:0≤r+st
 ·go_wp2_with fail
  go_ret2
  refine⟨?_,ae HG0.out HG1.out⟩
  rw[HRES.out]
  simp[h0]
 ·have h0':decide (0≤r+st)=false:=by simpa using h0
  go_wp2_with fail
  go_ret2
  refine⟨?_,ae HG0.out HG1.out⟩
  rw[HRES.out,h0']
  rfl
theorem lL (D A:List Value)(k c d1 d2:Int)(ok1 ok2:Bool)(w:World)(hD:D.length=8)(hA:A.length=8)(x0:A[0]?=some (.int .i64 k))(x1:A[1]?=some (.int .i64 c))(hk:k=1∨k=2)(hc:0≤c∧c≤5)(hd1:-10≤d1∧d1≤10)
  (HR1:Hid (∀ W,Calls Tryz.prog 132 #[.agg D.toArray,.agg ((A.drop 2).take 3).toArray] W fun e w'=>e=.returned (.tuple #[.int .i64 d1,.bool ok1])∧W.grownBy w' none))
  (HR2:Hid (k=1→∀ W,Calls Tryz.prog 132 #[.agg D.toArray,.agg (A.drop 5).toArray] W fun e w'=>e=.returned (.tuple #[.int .i64 d2,.bool ok2])∧W.grownBy w' none)) :
  Calls Tryz.prog 112 #[.agg D.toArray,.agg A.toArray] w fun e w'=>e=.returned (if ok1 then (if k=1 then .tuple #[.agg #[.int .i64 (c*10+d1),.bool true,.int .i64 d2],.bool ok2] else .tuple #[.agg #[.int .i64 (c*10+d1),.bool false,.int .i64 0],.bool true]) else .tuple #[.agg #[.int .i64 0,.bool false,.int .i64 0],.bool false])∧w.grownBy w' none:=by
 have hb0:(((w.alloc (.cells D.toArray 173)).alloc (.cells A.toArray 218)).alloc (.cells #[.int .i64 0,.bool false,.int .i64 0] 220)).heap[w.heap.size]?=some (.cells D.toArray 173 (0,0)):=by
  rw[Below.heap_alloc _ _ _ (by simp;omega),Below.heap_alloc _ _ _ (by simp)]
  exact heap_alloc_new w _
 have hb1:(((w.alloc (.cells D.toArray 173)).alloc (.cells A.toArray 218)).alloc (.cells #[.int .i64 0,.bool false,.int .i64 0] 220)).heap[w.heap.size+1]?=some (.cells A.toArray 218 (0,0)):=by
  rw[Below.heap_alloc _ _ _ (by simp)]
  exact bn (by simp)
 have hb2:(((w.alloc (.cells D.toArray 173)).alloc (.cells A.toArray 218)).alloc (.cells #[.int .i64 0,.bool false,.int .i64 0] 220)).heap[w.heap.size+1+1]?=some (.cells #[.int .i64 0,.bool false,.int .i64 0] 220 (0,0)):=bn (by simp)
 obtain⟨X,hX⟩:∃ X,X=(A.drop 2).take 3:=⟨_,rfl⟩
 obtain⟨Y,hY⟩:∃ Y,Y=A.drop 5:=⟨_,rfl⟩
 have hXl:X.length=3:=by rw[hX];simp[hA]
 have hYl:Y.length=3:=by rw[hY];simp[hA]
 rw[←hX] at HR1
 rw[←hY] at HR2
 have hXr:∀ j v,X[j]?=some v→A[2+j]?=some v:=fun j v hv=>by
  have hj:=(List.getElem?_eq_some_iff.1 hv).1
  rw[hXl] at hj
  rw[hX,List.getElem?_take_of_lt hj,List.getElem?_drop] at hv
  exact hv
 have hYr:∀ j v,Y[j]?=some v→A[5+j]?=some v:=fun j v hv=>by
  rw[hY,List.getElem?_drop] at hv
  exact hv
 have HD0:Hid ((((w.alloc (.cells D.toArray 173)).alloc (.cells A.toArray 218)).alloc (.cells #[.int .i64 0,.bool false,.int .i64 0] 220)).rangeAt w.heap.size 0 D):=af (aF hb0 rfl)
 have HX0:Hid ((((w.alloc (.cells D.toArray 173)).alloc (.cells A.toArray 218)).alloc (.cells #[.int .i64 0,.bool false,.int .i64 0] 220)).rangeAt (w.heap.size+1) 2 X):=af (bX hb1 hXr)
 have HID:Hid ((Tryz.prog.info? 173).map (·.size)=some D.length):=af (by rw[hD];exact gA)
 have HIX:Hid ((Tryz.prog.info? 216).map (·.size)=some X.length):=af (by rw[hXl];kernel_rfl)
 have HIY:Hid ((Tryz.prog.info? 216).map (·.size)=some Y.length):=af (by rw[hYl];kernel_rfl)
 have HG0:Hid (w.grownBy (((w.alloc (.cells D.toArray 173)).alloc (.cells A.toArray 218)).alloc (.cells #[.int .i64 0,.bool false,.int .i64 0] 220)) none):=af (ab (ab (ab (ag _ _) _) _) _)
 have HB0:=af hb0
 have HB1:=af hb1
 have HB2:=af hb2
 have HX0':=af x0
 have HX1':=af x1
 have HYR:=af hYr
 have hc0:=hc.1
 have hc5:=hc.2
 have hd0:=hd1.1
 have hd9:=hd1.2
 have hm:IntKind.i64.wrap (c*10)=c*10:=Go.IntWalk.i64_in _ (by omega)
 have hs:IntKind.i64.wrap (c*10+d1)=c*10+d1:=Go.IntWalk.i64_in _ (by omega)
 clear hb0 hb1 hb2 hX hY hXr hYr x0 x1 hc hd1 hA
 generalize hRES:(if ok1 then (if k=1 then Value.tuple #[.agg #[.int .i64 (c*10+d1),.bool true,.int .i64 d2],.bool ok2] else .tuple #[.agg #[.int .i64 (c*10+d1),.bool false,.int .i64 0],.bool true]) else .tuple #[.agg #[.int .i64 0,.bool false,.int .i64 0],.bool false])=res
 have HRES:=af hRES
 clear hRES
 go_enter Tryz.func112,Tryz.ntmps112
 go_wp2_with (first
  |(refine wpList_load_mid rfl 173 (.tmp 2) rfl w.heap.size 0 rfl D _ HD0.out Tryz.underlying173 rfl HID.out ?_)
  |(refine wpList_load_mid rfl 216 (.tmp 12) rfl (w.heap.size+1) 2 rfl X _ HX0.out Tryz.underlying216 rfl HIX.out ?_))
 go_at_call 132
 refine (HR1.out _).mono ?_
 rintro e w1 ⟨rfl,hg1⟩
 have hB0:=(hg1.block _ (lt_of_block HB0.out) (by simp)).trans HB0.out
 have hB1:=(hg1.block _ (lt_of_block HB1.out) (by simp)).trans HB1.out
 have hB2:=(hg1.block _ (lt_of_block HB2.out) (by simp)).trans HB2.out
 have HG1:Hid (w.grownBy w1 none):=af (ae HG0.out hg1)
 have HBB2:=af hB2
 have l1:=lt_of_block hB1
 have l2:=lt_of_block hB2
 have hsw:w.heap.size≤w.heap.size+1+1:=by omega
 clear hg1 HB0 HB1 HB2 HG0 HD0 HX0 HR1
 have n0:w.heap.size+1+1≠w1.heap.size:=by omega
 have n1:w.heap.size+1≠w1.heap.size:=by omega
 have n2:w.heap.size+1≠w.heap.size+1+1:=by omega
 have z0:∀ i,w1.frozen? ⟨w.heap.size+1+1,i,none⟩=false:=ai hB2
 have q0:w1.cell? ⟨w.heap.size+1+1,0,none⟩=some (.int .i64 0):=by rw[cell_of_row _ _ _ _ _ _ hB2];rfl
 have q1:w1.cell? ⟨w.heap.size+1+1,1,none⟩=some (.bool false):=by rw[cell_of_row _ _ _ _ _ _ hB2];rfl
 have q2:w1.cell? ⟨w.heap.size+1+1,2,none⟩=some (.int .i64 0):=by rw[cell_of_row _ _ _ _ _ _ hB2];rfl
 have p0:w1.cell? ⟨w.heap.size+1,0,none⟩=some (.int .i64 k):=bc hB1 HX0'.out
 have p1:w1.cell? ⟨w.heap.size+1,1,none⟩=some (.int .i64 c):=bc hB1 HX1'.out
 have HS:Hid (∀ W i v,w.grownBy W none→w.grownBy (W.setCell ⟨w.heap.size+1+1,i,none⟩ v) none):=af (fun W i v h=>aj h (.inr (by show w.heap.size≤w.heap.size+1+1;omega)) _)
 cases ok1 with
 |false=>
  go_wp2_with fail
  refine bodyPost_ret (aO Tryz.results112 rfl (ah (ah (ah HBB2.out _ _) _ _) _ _) Tryz.underlying220 rfl (by kernel_rfl) rfl) rfl ⟨?_,HS.out _ _ _ (HS.out _ _ _ (HS.out _ _ _ HG1.out))⟩
  rw[←HRES.out]
  rfl
 |true=>
  rcases hk with rfl|rfl
  ·have HR2':=af (HR2.out rfl)
   have HYY:Hid (∀ W,w1.grownBy W none→W.rangeAt (w.heap.size+1) 5 Y∧W.rangeAt w.heap.size 0 D):=af (fun W hW=>⟨bX ((hW.block _ l1 (by simp)).trans hB1) HYR.out,aF ((hW.block _ (lt_of_block hB0) (by simp)).trans hB0) rfl⟩)
   have HG2:Hid (w1.grownBy (w1.alloc (.cells #[.int .i64 (c*10+d1),.bool false,.int .i64 0] 220)) none):=af (ab (ag _ _) _)
   have HY1:=af ((HYY.out _ HG2.out).1)
   have HD1:=af ((HYY.out _ HG2.out).2)
   have hbe:(w1.alloc (.cells #[.int .i64 (c*10+d1),.bool false,.int .i64 0] 220)).heap[w1.heap.size]?=some (.cells #[.int .i64 (c*10+d1),.bool false,.int .i64 0] 220 (0,0)):=heap_alloc_new w1 _
   have HBE:=af hbe
   clear hbe HR2
   go_wp2_with (first
    |(refine wpList_load_mid rfl 173 (.tmp 2) rfl w.heap.size 0 rfl D _ HD1.out Tryz.underlying173 rfl HID.out ?_)
    |(refine wpList_load_mid rfl 216 (.tmp 32) rfl (w.heap.size+1) 5 rfl Y _ HY1.out Tryz.underlying216 rfl HIY.out ?_))
   go_at_call 132
   refine (HR2'.out _).mono ?_
   rintro e w2 ⟨rfl,hg2⟩
   have hE:=(hg2.block _ (lt_of_block HBE.out) (by simp)).trans HBE.out
   have h22:=(hg2.block _ (by simp;omega) (by simp)).trans ((Below.heap_alloc w1 _ _ l2).trans HBB2.out)
   have HB22:=af h22
   have HGG:Hid (w.grownBy w2 none):=af (ae HG1.out (ae HG2.out hg2))
   have e0:w2.cell? ⟨w1.heap.size,0,none⟩=some (.int .i64 (c*10+d1)):=by rw[cell_of_row _ _ _ _ _ _ hE];rfl
   have e1:w2.cell? ⟨w1.heap.size,1,none⟩=some (.bool false):=by rw[cell_of_row _ _ _ _ _ _ hE];rfl
   have e2:w2.cell? ⟨w1.heap.size,2,none⟩=some (.int .i64 0):=by rw[cell_of_row _ _ _ _ _ _ hE];rfl
   have ze:∀ i,w2.frozen? ⟨w1.heap.size,i,none⟩=false:=ai hE
   have z2:∀ i,w2.frozen? ⟨w.heap.size+1+1,i,none⟩=false:=ai h22
   have r0:w2.cell? ⟨w.heap.size+1+1,0,none⟩=some (.int .i64 0):=by rw[cell_of_row _ _ _ _ _ _ h22];rfl
   have r1:w2.cell? ⟨w.heap.size+1+1,1,none⟩=some (.bool false):=by rw[cell_of_row _ _ _ _ _ _ h22];rfl
   have r2:w2.cell? ⟨w.heap.size+1+1,2,none⟩=some (.int .i64 0):=by rw[cell_of_row _ _ _ _ _ _ h22];rfl
   have n0':=n0.symm
   have HS1:Hid (∀ W i v,w.grownBy W none→w.grownBy (W.setCell ⟨w1.heap.size,i,none⟩ v) none):=af (fun W i v h=>aj h (.inr (by show w.heap.size≤w1.heap.size;exact HG1.out.size)) _)
   clear hg2 hE h22 HR2' HY1 HD1 HYY hB0 hB1 hB2
   go_wp2_with fail
   refine bodyPost_ret (aO Tryz.results112 rfl (ah (ah (ah ((jp n0).trans ((jp n0).trans HB22.out)) _ _) _ _) _ _) Tryz.underlying220 rfl (by kernel_rfl) rfl) rfl ⟨?_,HS.out _ _ _ (HS.out _ _ _ (HS.out _ _ _ (HS1.out _ _ _ (HS1.out _ _ _ HGG.out))))⟩
   rw[←HRES.out]
   rfl
  ·have hne:¬((2:Int)=1):=by omega
   go_wp2_with fail
   refine bodyPost_ret (aO Tryz.results112 rfl ((Below.heap_alloc _ _ _ (by simpa [World.setCell] using l2)).trans (ah (ah (ah HBB2.out _ _) _ _) _ _)) Tryz.underlying220 rfl (by kernel_rfl) rfl) rfl ⟨?_,ab (HS.out _ _ _ (HS.out _ _ _ (HS.out _ _ _ HG1.out))) _⟩
   rw[←HRES.out]
   rfl
def pM (s:ByteArray)(e:fu)(p:Nat):Option (Nat×Option Int):=
 if bt s p=43 then
  (if (0≤fH 0 e (bt s (p+2))+g9 (bt s (p+3))∧fH 0 e (bt s (p+2))+g9 (bt s (p+3))<10)∧0≤fH 0 e (bt s (da s (p+2)))+g9 (bt s (da s (p+2)+1))∧fH 0 e (bt s (da s (p+2)))+g9 (bt s (da s (p+2)+1))<10
   then some (((bt s (p+1) - 97)*10+(fH 0 e (bt s (p+2))+g9 (bt s (p+3)))).toNat,some (fH 0 e (bt s (da s (p+2)))+g9 (bt s (da s (p+2)+1)))) else none)
 else (if 0≤fH 0 e (bt s (p+2))+g9 (bt s (p+3))∧fH 0 e (bt s (p+2))+g9 (bt s (p+3))<10
   then some (((bt s (p+1) - 97)*10+(fH 0 e (bt s (p+2))+g9 (bt s (p+3)))).toNat,none) else none)
def gi (s:ByteArray)(e:fu)(K:List Nat):Option (List (Nat×Option Int)×Bool):=K.foldl (fun o p=>o.bind fun q=>if bt s p=46 then some (q.1,true) else (pM s e p).map fun x=>(q.1++[x],q.2)) (some ([],false))
theorem oe (s:ByteArray)(e:fu)(K:List Nat)(j:Nat)(hj:j<K.length):gi s e (K.take (j+1))=(gi s e (K.take j)).bind fun q=>if bt s K[j]=46 then some (q.1,true) else (pM s e K[j]).map fun x=>(q.1++[x],q.2):=by
 unfold gi
 rw[List.take_succ_eq_append_getElem hj,List.foldl_append]
 rfl
theorem Bk (s:ByteArray)(e:fu)(K:List Nat):∀ j,gi s e (K.take j)=none→gi s e K=none:=by
 intro j h
 have:∀ (l:List Nat),l.foldl (fun o p=>o.bind fun q=>if bt s p=46 then some (q.1,true) else (pM s e p).map fun x=>(q.1++[x],q.2)) (none:Option (List (Nat×Option Int)×Bool))=none:=by
  intro l
  induction l with
  |nil=>rfl
  |cons p l ih=>exact ih
 unfold gi at h ⊢
 rw[←List.take_append_drop j K,List.foldl_append,h]
 exact this _
theorem li (s:ByteArray)(e:fu)(K:List Nat):∀ j,j≤K.length→∀ q,gi s e (K.take j)=some q→q.1.length≤j
 |0,_,q,h=>by
  have:q=([],false):=by simpa [gi] using h.symm
  rw[this]
  simp
 |j+1,hj,q,h=>by
  rw[oe s e K j (by omega)] at h
  cases ho:gi s e (K.take j) with
  |none=>rw[ho] at h;cases h
  |some r=>
   have ih:=li s e K j (by omega) r ho
   rw[ho] at h
   simp only[Option.bind_some] at h
   split at h
   ·cases h;simp only;omega
   ·cases hx:pM s e (K[j]'(by omega)) with
    |none=>rw[hx] at h;cases h
    |some x=>
     rw[hx] at h
     cases h
     simp only[List.length_append,List.length_cons,List.length_nil]
     omega
def ET (q:Nat×Option Int):List Value:=[.int .i64 q.1,.bool q.2.isSome,.int .i64 (q.2.getD 0)]
def Db (l:List (Nat×Option Int)):List Value:=l.flatMap ET
theorem yW (q:Nat×Option Int):∀ v∈ET q,v.oneCell'=true:=by
 intro v hv
 simp only[ET,List.mem_cons,List.not_mem_nil,or_false] at hv
 rcases hv with h|h|h <;> rw[h] <;> rfl
def xB (s:ByteArray)(p:Nat):List Value:=[.int .i64 (ed s p).k,.int .i64 (ed s p).c,.int .i64 (ed s p).a1,.int .i64 (ed s p).a2,.int .i64 (ed s p).a3,.int .i64 (ed s p).b1,.int .i64 (ed s p).b2,.int .i64 (ed s p).b3]
theorem Fe (s:ByteArray)(p:Nat):∀ v∈xB s p,v.oneCell'=true:=by
 intro v hv
 simp only[xB,List.mem_cons,List.not_mem_nil,or_false] at hv
 rcases hv with h|h|h|h|h|h|h|h <;> rw[h] <;> rfl
theorem tV (c:Int):-1≤g9 c∧g9 c≤1:=by
 unfold g9
 split
 ·omega
 ·split <;> omega
theorem th {e:fu}{t:Int}(_hs:bg t=true)(he:∀ n v,e n=some v→0≤v∧v≤9):0≤fH 0 e t∧fH 0 e t≤9:=by
 unfold fH
 split
 ·rename_i h
  simp[bM] at h
  omega
 ·cases h:e (t - 119).toNat with
  |none=>simp
  |some v=>
   have:=he _ v h
   simpa using this
theorem kY (e:fu)(t u:Int)(w:World)(hs:bg t=true)(he:∀ n v,e n=some v→0≤v∧v≤9):
  Calls Tryz.prog 132 #[.agg (oo e).toArray,.agg #[.int .i64 (dw t),.int .i64 (dD t),.int .i64 (g9 u)]] w fun r w'=>r=.returned (.tuple #[.int .i64 (fH 0 e t+g9 u),.bool (decide (0≤fH 0 e t+g9 u)&&decide (fH 0 e t+g9 u<10))])∧w.grownBy w' none:=
 rA (oo e) [.int .i64 (dw t),.int .i64 (dD t),.int .i64 (g9 u)] (fH 0 e t) (g9 u) w rfl rfl rfl (th hs he) (tV u) (af (fun W=>by
  refine (qQ (dB e 0) (dB e 1) (dB e 2) (dB e 3) _ _ _ _ _ _ _ W (py e t hs)).mono ?_
  rintro r w' ⟨rfl,rfl⟩
  exact⟨rfl,ab (ab (ag _ _) _) _⟩))
def DL (s:ByteArray)(e:fu)(p:Nat)(v:Value):Prop:=match pM s e p with
 |some x=>v=.tuple #[.agg (ET x).toArray,.bool true]
 |none=>∃ c b d,v=.tuple #[.agg #[.int .i64 c,.bool b,.int .i64 d],.bool false]
theorem wq (s:ByteArray)(e:fu)(p:Nat)(w:World)(hok:cU s p=true)(h46:bt s p≠46)(he:∀ n v,e n=some v→0≤v∧v≤9):
  Calls Tryz.prog 112 #[.agg (oo e).toArray,.agg (xB s p).toArray] w fun r w'=>(∃ v,r=.returned v∧DL s e p v)∧w.grownBy w' none:=by
 unfold cU at hok
 by_cases h43:bt s p=43
 ·rw[if_pos h43] at hok
  unfold fL at hok
  simp only[Bool.and_eq_true] at hok
  obtain⟨⟨h1,h2'⟩,h3'⟩:=hok
  have h2:bg (bt s (p+2))=true:=h2'
  have h3:bg (bt s (da s (p+2)))=true:=h3'
  have ea:ed s p=yf s (p+1):=by simp[ed,h43]
  have hc:0≤bt s (p+1) - 97∧bt s (p+1) - 97≤5:=by simp[aU] at h1;omega
  have b1:=th h2 he
  have b2:=tV (bt s (p+3))
  have b3:=th h3 he
  have b4:=tV (bt s (da s (p+2)+1))
  have:=lL (oo e) (xB s p) 1 (bt s (p+1) - 97) (fH 0 e (bt s (p+2))+g9 (bt s (p+3))) (fH 0 e (bt s (da s (p+2)))+g9 (bt s (da s (p+2)+1))) _ _ w rfl rfl (by rw[xB,ea];rfl) (by rw[xB,ea];rfl) (.inl rfl) hc (by omega)
   (af (fun W=>by
    have:=kY e (bt s (p+2)) (bt s (p+3)) W h2 he
    unfold xB
    rw[ea]
    exact this))
   (af (fun _ W=>by
    have:=kY e (bt s (da s (p+2))) (bt s (da s (p+2)+1)) W h3 he
    unfold xB
    rw[ea]
    exact this))
  refine this.mono ?_
  rintro r w' ⟨rfl,hg⟩
  refine⟨⟨_,rfl,?_⟩,hg⟩
  unfold DL pM
  rw[if_pos h43]
  generalize fH 0 e (bt s (p+2))+g9 (bt s (p+3))=d at*
  generalize fH 0 e (bt s (da s (p+2)))+g9 (bt s (da s (p+2)+1))=v at*
  by_cases hd:0≤d∧d<10
  ·by_cases hv:0≤v∧v<10
   ·rw[if_pos ⟨hd,hv⟩]
    simp[ET,hd,hv]
    omega
   ·rw[if_neg (fun h=>hv h.2)]
    have hv':(decide (0≤v)&&decide (v<10))=false:=by simpa using hv
    simp[hd,hv']
  ·rw[if_neg (fun h=>hd h.1)]
   have hd':(decide (0≤d)&&decide (d<10))=false:=by simpa using hd
   simp[hd']
 ·rw[if_neg h43] at hok
  by_cases h45:bt s p=45
  ·rw[if_pos h45] at hok
   unfold gm at hok
   simp only[Bool.and_eq_true] at hok
   obtain⟨h1,h2'⟩:=hok
   have h2:bg (bt s (p+2))=true:=h2'
   have ea:ed s p=v8 s (p+1):=by simp[ed,h45]
   have hc:0≤bt s (p+1) - 97∧bt s (p+1) - 97≤5:=by simp[aU] at h1;omega
   have b1:=th h2 he
   have b2:=tV (bt s (p+3))
   have:=lL (oo e) (xB s p) 2 (bt s (p+1) - 97) (fH 0 e (bt s (p+2))+g9 (bt s (p+3))) 0 _ false w rfl rfl (by rw[xB,ea];rfl) (by rw[xB,ea];rfl) (.inr rfl) hc (by omega)
    (af (fun W=>by
     have:=kY e (bt s (p+2)) (bt s (p+3)) W h2 he
     unfold xB
     rw[ea]
     exact this))
    (af (fun h=>by omega))
   refine this.mono ?_
   rintro r w' ⟨rfl,hg⟩
   refine⟨⟨_,rfl,?_⟩,hg⟩
   unfold DL pM
   rw[if_neg h43]
   generalize fH 0 e (bt s (p+2))+g9 (bt s (p+3))=d at*
   by_cases hd:0≤d∧d<10
   ·rw[if_pos hd]
    simp[ET,hd]
    omega
   ·rw[if_neg hd]
    have hd':(decide (0≤d)&&decide (d<10))=false:=by simpa using hd
    simp[hd']
  ·rw[if_neg h45] at hok
   simp at hok
   exact absurd hok h46
end Go.Proofs.YthlhbjnkohinmabGreat
