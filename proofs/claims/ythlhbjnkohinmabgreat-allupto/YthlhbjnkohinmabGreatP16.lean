import Derived.Test.YthlhbjnkohinmabGreatP15
namespace Go.Proofs.YthlhbjnkohinmabGreat
set_option maxRecDepth 100000
set_option maxHeartbeats 8000000
open Go.RowKit
def dU:List Value→Nat→List Value→List Value
 |A,_,[]=>A
 |A,o,v::vs=>dU (A.set o v) (o+1) vs
theorem kZ:∀ (vs:List Value)(A:List Value)(o:Nat) ,(dU A o vs).length=A.length
 |[],_,_=>rfl
 |_::vs,A,o=>by rw[dU,kZ vs];simp
theorem nr:∀ (vs:List Value)(A:List Value)(o i:Nat) ,i<o∨o+vs.length≤i→(dU A o vs)[i]?=A[i]?
 |[],_,_,_,_=>rfl
 |v::vs,A,o,i,h=>by
  rw[dU,nr vs _ _ _ (by simp at h;omega),List.getElem?_set_ne (by simp at h;omega)]
theorem kL {p:Value→Bool}:∀ (vs:List Value) (A:List Value) (o:Nat),(∀ v∈A,p v=true)→(∀ v∈vs,p v=true)→∀ v∈dU A o vs,p v=true
 |[],_,_,h,_=>h
 |x::vs,A,o,h,h2=>by
  rw[dU]
  refine kL vs _ _ (fun v hv=>?_) (fun v hv=>h2 v (by simp[hv]))
  rcases List.mem_or_eq_of_mem_set hv with h3|h3
  ·exact h v h3
  ·rw[h3];exact h2 x (by simp)
theorem lg {b:Nat}{t:TypeId}:∀ (vs:List Value) (o:Nat) (A:List Value) (w:World),w.heap[b]?=some (.cells A.toArray t (0,0))→(w.setCells b o vs).heap[b]?=some (.cells (dU A o vs).toArray t (0,0))
 |[],_,_,_,h=>h
 |v::vs,o,A,w,h=>by
  have h1:=ah h o v
  rw[List.setIfInBounds_toArray] at h1
  exact lg vs (o+1) _ _ h1
theorem gT {w:World}{b:Nat}{A:List Value}{t:TypeId}(h:w.heap[b]?=some (.cells A.toArray t (0,0)))(i:Nat)(u:Value):(w.setCell ⟨b,i,none⟩ u).heap[b]?=some (.cells (A.set i u).toArray t (0,0)):=by
 have h1:=ah h i u
 rw[List.setIfInBounds_toArray] at h1
 exact h1
theorem fN {k b:Nat}:∀ (vs:List Value) (o:Nat) (w:World),k≠b→(w.setCells b o vs).heap[k]?=w.heap[k]?
 |[],_,_,_=>rfl
 |v::vs,o,w,h=>by
  rw[World.setCells,fN vs _ _ h]
  exact jp h
theorem bX {w:World}{b o:Nat}{A cs:List Value}{t:TypeId}(h:w.heap[b]?=some (.cells A.toArray t (0,0)))(hA:∀ j v,cs[j]?=some v→A[o+j]?=some v):w.rangeAt b o cs:=fun j v hv=>by
 rw[cell_of_row _ _ _ _ _ _ h]
 simpa using hA j v hv
theorem dJ {w:World}{b o m:Nat}{A:List Value}{t:TypeId}(h:w.heap[b]?=some (.cells A.toArray t (0,0)))(hA:o+m≤A.length):w.there b o m:=fun j hj=>by
 refine⟨?_,ai h _⟩
 rw[cell_of_row _ _ _ _ _ _ h]
 simp
 omega
theorem bc {w:World}{b i:Nat}{A:List Value}{t:TypeId}{v:Value}(h:w.heap[b]?=some (.cells A.toArray t (0,0)))(hA:A[i]?=some v):w.cell? ⟨b,i,none⟩=some v:=by
 rw[cell_of_row _ _ _ _ _ _ h]
 simpa using hA
theorem bC:(Tryz.prog.info? 175).map (·.size)=some 24:=by kernel_rfl
theorem gA:(Tryz.prog.info? 173).map (·.size)=some 8:=by kernel_rfl
theorem iI:(Tryz.prog.info? 205).map (·.size)=some 7:=by kernel_rfl
theorem jU:(Tryz.prog.info? 114).map (·.size)=some 4:=by kernel_rfl
theorem zI (A C Q G:List Value)(lt y:Int)(n:Nat)(hn:n<3)(hA:A.length=24)(hC:C.length=7)(hQ:Q.length=4)(hG:G.length=8)
  (a2:A[2]?=some (.int .i64 lt)) (a3:A[3]?=some (.int .i64 n)) (q3:Q[3]?=some (.int .i64 y))
  (oA:∀ v∈A,v.oneCell'=true) (oQ:∀ v∈Q,v.oneCell'=true) (oG:∀ v∈G,v.oneCell'=true) (hlt:y≤lt) (w:World)
  (HGO:Hid (∀ W,Calls Tryz.prog 138 #[.agg (A.drop 16).toArray,.agg C.toArray,.agg Q.toArray] W fun r w'=>r=.returned (.tuple #[.agg G.toArray,.bool true])∧W.grownBy w' none)) :
  Calls Tryz.prog 127 #[.agg A.toArray,.agg C.toArray,.agg Q.toArray] w fun r w'=>r=.returned (.tuple #[.agg ((dU (dU A 16 G) (4+n*4) Q).set 3 (.int .i64 (n+1))).toArray,.bool true])∧w.grownBy w' none:=by
 obtain⟨R,hR⟩:∃ R,R=((dU (dU A 16 G) (4+n*4) Q).set 3 (.int .i64 (n+1))):=⟨_,rfl⟩
 rw[←hR]
 have HR:=af hR
 clear hR
 have HWA:Hid (w.grownBy ((((w.alloc (.cells A.toArray 175)).alloc (.cells C.toArray 205)).alloc (.cells Q.toArray 114)).alloc (.cells #[.int .i64 0,.int .i64 0,.int .i64 0,.int .i64 0,.int .i64 0,.int .i64 0,.int .i64 0,.int .i64 0,.int .i64 0,.int .i64 0,.int .i64 0,.int .i64 0,.int .i64 0,.int .i64 0,.int .i64 0,.int .i64 0,.bool false,.bool false,.bool false,.bool false,.int .i64 0,.int .i64 0,.int .i64 0,.int .i64 0] 175)) none):=af (ab (ab (ab (ab (ag _ _) _) _) _) _)
 have hb0:((((w.alloc (.cells A.toArray 175)).alloc (.cells C.toArray 205)).alloc (.cells Q.toArray 114)).alloc (.cells #[.int .i64 0,.int .i64 0,.int .i64 0,.int .i64 0,.int .i64 0,.int .i64 0,.int .i64 0,.int .i64 0,.int .i64 0,.int .i64 0,.int .i64 0,.int .i64 0,.int .i64 0,.int .i64 0,.int .i64 0,.int .i64 0,.bool false,.bool false,.bool false,.bool false,.int .i64 0,.int .i64 0,.int .i64 0,.int .i64 0] 175)).heap[w.heap.size]?=some (.cells A.toArray 175 (0,0)):=by
  rw[Below.heap_alloc _ _ _ (by simp;omega),Below.heap_alloc _ _ _ (by simp;omega),Below.heap_alloc _ _ _ (by simp)]
  exact bn rfl
 have hb1:((((w.alloc (.cells A.toArray 175)).alloc (.cells C.toArray 205)).alloc (.cells Q.toArray 114)).alloc (.cells #[.int .i64 0,.int .i64 0,.int .i64 0,.int .i64 0,.int .i64 0,.int .i64 0,.int .i64 0,.int .i64 0,.int .i64 0,.int .i64 0,.int .i64 0,.int .i64 0,.int .i64 0,.int .i64 0,.int .i64 0,.int .i64 0,.bool false,.bool false,.bool false,.bool false,.int .i64 0,.int .i64 0,.int .i64 0,.int .i64 0] 175)).heap[w.heap.size+1]?=some (.cells C.toArray 205 (0,0)):=by
  rw[Below.heap_alloc _ _ _ (by simp),Below.heap_alloc _ _ _ (by simp)]
  exact bn (by simp)
 have hb2:((((w.alloc (.cells A.toArray 175)).alloc (.cells C.toArray 205)).alloc (.cells Q.toArray 114)).alloc (.cells #[.int .i64 0,.int .i64 0,.int .i64 0,.int .i64 0,.int .i64 0,.int .i64 0,.int .i64 0,.int .i64 0,.int .i64 0,.int .i64 0,.int .i64 0,.int .i64 0,.int .i64 0,.int .i64 0,.int .i64 0,.int .i64 0,.bool false,.bool false,.bool false,.bool false,.int .i64 0,.int .i64 0,.int .i64 0,.int .i64 0] 175)).heap[w.heap.size+1+1]?=some (.cells Q.toArray 114 (0,0)):=by
  rw[Below.heap_alloc _ _ _ (by simp)]
  exact bn (by simp)
 have hb3:((((w.alloc (.cells A.toArray 175)).alloc (.cells C.toArray 205)).alloc (.cells Q.toArray 114)).alloc (.cells #[.int .i64 0,.int .i64 0,.int .i64 0,.int .i64 0,.int .i64 0,.int .i64 0,.int .i64 0,.int .i64 0,.int .i64 0,.int .i64 0,.int .i64 0,.int .i64 0,.int .i64 0,.int .i64 0,.int .i64 0,.int .i64 0,.bool false,.bool false,.bool false,.bool false,.int .i64 0,.int .i64 0,.int .i64 0,.int .i64 0] 175)).heap[w.heap.size+1+1+1]?=some (.cells #[.int .i64 0,.int .i64 0,.int .i64 0,.int .i64 0,.int .i64 0,.int .i64 0,.int .i64 0,.int .i64 0,.int .i64 0,.int .i64 0,.int .i64 0,.int .i64 0,.int .i64 0,.int .i64 0,.int .i64 0,.int .i64 0,.bool false,.bool false,.bool false,.bool false,.int .i64 0,.int .i64 0,.int .i64 0,.int .i64 0] 175 (0,0)):=bn (by simp)
 have HB0:=af hb0
 have HB2:=af hb2
 have HB3:=af hb3
 have HR0:Hid (((((w.alloc (.cells A.toArray 175)).alloc (.cells C.toArray 205)).alloc (.cells Q.toArray 114)).alloc (.cells #[.int .i64 0,.int .i64 0,.int .i64 0,.int .i64 0,.int .i64 0,.int .i64 0,.int .i64 0,.int .i64 0,.int .i64 0,.int .i64 0,.int .i64 0,.int .i64 0,.int .i64 0,.int .i64 0,.int .i64 0,.int .i64 0,.bool false,.bool false,.bool false,.bool false,.int .i64 0,.int .i64 0,.int .i64 0,.int .i64 0] 175)).rangeAt w.heap.size 16 (A.drop 16)):=af (bX hb0 (fun j v hv=>by rw[List.getElem?_drop] at hv;exact hv))
 have HR1:Hid (((((w.alloc (.cells A.toArray 175)).alloc (.cells C.toArray 205)).alloc (.cells Q.toArray 114)).alloc (.cells #[.int .i64 0,.int .i64 0,.int .i64 0,.int .i64 0,.int .i64 0,.int .i64 0,.int .i64 0,.int .i64 0,.int .i64 0,.int .i64 0,.int .i64 0,.int .i64 0,.int .i64 0,.int .i64 0,.int .i64 0,.int .i64 0,.bool false,.bool false,.bool false,.bool false,.int .i64 0,.int .i64 0,.int .i64 0,.int .i64 0] 175)).rangeAt (w.heap.size+1) 0 C):=af (bX hb1 (fun j v hv=>by rw[Nat.zero_add];exact hv))
 have HR2:Hid (((((w.alloc (.cells A.toArray 175)).alloc (.cells C.toArray 205)).alloc (.cells Q.toArray 114)).alloc (.cells #[.int .i64 0,.int .i64 0,.int .i64 0,.int .i64 0,.int .i64 0,.int .i64 0,.int .i64 0,.int .i64 0,.int .i64 0,.int .i64 0,.int .i64 0,.int .i64 0,.int .i64 0,.int .i64 0,.int .i64 0,.int .i64 0,.bool false,.bool false,.bool false,.bool false,.int .i64 0,.int .i64 0,.int .i64 0,.int .i64 0] 175)).rangeAt (w.heap.size+1+1) 0 Q):=af (bX hb2 (fun j v hv=>by rw[Nat.zero_add];exact hv))
 obtain⟨D,hD⟩:∃ D,D=A.drop 16:=⟨_,rfl⟩
 rw[←hD] at HR0 HGO
 have hDl:D.length=8:=by rw[hD];simp[hA]
 have HID:Hid ((Tryz.prog.info? 173).map (·.size)=some D.length):=af (by rw[hDl];exact gA)
 have HIC:Hid ((Tryz.prog.info? 205).map (·.size)=some C.length):=af (by rw[hC];exact iI)
 have HIQ:Hid ((Tryz.prog.info? 114).map (·.size)=some Q.length):=af (by rw[hQ];exact jU)
 have HIG:Hid ((Tryz.prog.info? 173).map (·.size)=some G.length):=af (by rw[hG];exact gA)
 have HA:=af hA
 have HQ:=af hQ
 have HG:=af hG
 have HA2:=af a2
 have HA3:=af a3
 have HQ3:=af q3
 have HOA:=af oA
 have HOQ:=af oQ
 have HOG:=af oG
 clear hD hb0 hb1 hb2 hb3 a2 a3 q3 oA oQ oG
 go_enter Tryz.func127,Tryz.ntmps127
 go_wp2_with (first
  |(refine wpList_load_mid rfl 173 (.tmp 11) rfl w.heap.size 16 rfl D _ HR0.out Tryz.underlying173 rfl HID.out ?_)
  |(refine wpList_load_mid rfl 205 (.tmp 4) rfl (w.heap.size+1) 0 rfl C _ HR1.out Tryz.underlying205 rfl HIC.out ?_)
  |(refine wpList_load_mid rfl 114 (.tmp 5) rfl (w.heap.size+1+1) 0 rfl Q _ HR2.out Tryz.underlying114 rfl HIQ.out ?_))
 go_at_call 138
 refine (HGO.out _).mono ?_
 rintro e w1 ⟨rfl,hg1⟩
 have HG1:=af hg1
 clear hg1
 have hB0:=(HG1.out.block _ (lt_of_block HB0.out) (by simp)).trans HB0.out
 have hB2:=(HG1.out.block _ (lt_of_block HB2.out) (by simp)).trans HB2.out
 have hB3:=(HG1.out.block _ (lt_of_block HB3.out) (by simp)).trans HB3.out
 have HG2:Hid (w.grownBy w1 none):=af (ae HWA.out HG1.out)
 have l0:=lt_of_block hB0
 have l2:=lt_of_block hB2
 have l3:=lt_of_block hB3
 have HS0:Hid (∀ W i v,w.grownBy W none→w.grownBy (W.setCell ⟨w.heap.size,i,none⟩ v) none):=af (fun W i v h=>aj h (.inr (by show w.heap.size≤w.heap.size;omega)) _)
 have HSS:Hid (∀ W b o l,w.heap.size≤b→w.grownBy W none→w.grownBy (W.setCells b o l) none):=af (fun W b o l hb h=>cw hb _ _ h)
 have m0:(w.heap.size+1+1)≠w.heap.size:=by omega
 have m1:(w.heap.size+1+1+1)≠w.heap.size:=by omega
 have s3:w.heap.size≤w.heap.size+1+1+1:=by omega
 have s4:w.heap.size≤w1.heap.size:=by omega
 clear HWA HB0 HB2 HB3 HG1 HR0 HR1 HR2 HGO HID HIC hDl hC
 generalize w.heap.size+1+1+1=b3 at hB3 HSS m1 l3 s3 ⊢
 generalize w.heap.size+1+1=b2 at hB2 m0 l2 ⊢
 generalize w.heap.size+1=b1
 generalize w.heap.size=b0 at hB0 HS0 HSS m0 m1 l0 s3 s4 ⊢
 have z0:(w1.alloc (.cells #[.bool false,.bool false,.bool false,.bool false,.int .i64 0,.int .i64 0,.int .i64 0,.int .i64 0] 173)).heap[w1.heap.size]?=some (.cells #[.bool false,.bool false,.bool false,.bool false,.int .i64 0,.int .i64 0,.int .i64 0,.int .i64 0] 173 (0,0)):=bn rfl
 have z1:(w1.alloc (.cells #[.bool false,.bool false,.bool false,.bool false,.int .i64 0,.int .i64 0,.int .i64 0,.int .i64 0] 173)).heap[b0]?=some (.cells A.toArray 175 (0,0)):=(Below.heap_alloc _ _ _ l0).trans hB0
 have z2:(w1.alloc (.cells #[.bool false,.bool false,.bool false,.bool false,.int .i64 0,.int .i64 0,.int .i64 0,.int .i64 0] 173)).heap[b2]?=some (.cells Q.toArray 114 (0,0)):=(Below.heap_alloc _ _ _ l2).trans hB2
 have z3:(w1.alloc (.cells #[.bool false,.bool false,.bool false,.bool false,.int .i64 0,.int .i64 0,.int .i64 0,.int .i64 0] 173)).heap[b3]?=some (.cells #[.int .i64 0,.int .i64 0,.int .i64 0,.int .i64 0,.int .i64 0,.int .i64 0,.int .i64 0,.int .i64 0,.int .i64 0,.int .i64 0,.int .i64 0,.int .i64 0,.int .i64 0,.int .i64 0,.int .i64 0,.int .i64 0,.bool false,.bool false,.bool false,.bool false,.int .i64 0,.int .i64 0,.int .i64 0,.int .i64 0] 175 (0,0)):=(Below.heap_alloc _ _ _ l3).trans hB3
 have n0:b0≠w1.heap.size:=by omega
 have n2:b2≠w1.heap.size:=by omega
 have n3:b3≠w1.heap.size:=by omega
 have HT1:Hid ((w1.alloc (.cells #[.bool false,.bool false,.bool false,.bool false,.int .i64 0,.int .i64 0,.int .i64 0,.int .i64 0] 173)).there w1.heap.size 0 G.toArray.size):=af (by
  change _=some (Obj.cells ([.bool false,.bool false,.bool false,.bool false,.int .i64 0,.int .i64 0,.int .i64 0,.int .i64 0]:List Value).toArray 173 (0,0)) at z0
  exact dJ z0 (by simp[HG.out]))
 obtain⟨W1,hW1⟩:∃ W,W=(w1.alloc (.cells #[.bool false,.bool false,.bool false,.bool false,.int .i64 0,.int .i64 0,.int .i64 0,.int .i64 0] 173)).setCells w1.heap.size 0 G:=⟨_,rfl⟩
 have y0:W1.heap[b0]?=some (.cells A.toArray 175 (0,0)):=by rw[hW1,fN _ _ _ n0];exact z1
 have y2:W1.heap[b2]?=some (.cells Q.toArray 114 (0,0)):=by rw[hW1,fN _ _ _ n2];exact z2
 have y3:W1.heap[b3]?=some (.cells #[.int .i64 0,.int .i64 0,.int .i64 0,.int .i64 0,.int .i64 0,.int .i64 0,.int .i64 0,.int .i64 0,.int .i64 0,.int .i64 0,.int .i64 0,.int .i64 0,.int .i64 0,.int .i64 0,.int .i64 0,.int .i64 0,.bool false,.bool false,.bool false,.bool false,.int .i64 0,.int .i64 0,.int .i64 0,.int .i64 0] 175 (0,0)):=by rw[hW1,fN _ _ _ n3];exact z3
 have HRG:Hid (W1.rangeAt w1.heap.size 0 G):=af (by
  rw[hW1]
  refine World.rangeAt_setCells_same _ _ _ _ ?_
  have:=HT1.out
  simpa using this)
 have gW1:w.grownBy W1 none:=by rw[hW1];exact HSS.out _ _ _ _ (by omega) (ab HG2.out _)
 obtain⟨W2,hW2⟩:∃ W,W=W1.setCells b0 16 G:=⟨_,rfl⟩
 have x0:W2.heap[b0]?=some (.cells (dU A 16 G).toArray 175 (0,0)):=by rw[hW2];exact lg _ _ _ _ y0
 have x2:W2.heap[b2]?=some (.cells Q.toArray 114 (0,0)):=by rw[hW2,fN _ _ _ m0];exact y2
 have x3:W2.heap[b3]?=some (.cells #[.int .i64 0,.int .i64 0,.int .i64 0,.int .i64 0,.int .i64 0,.int .i64 0,.int .i64 0,.int .i64 0,.int .i64 0,.int .i64 0,.int .i64 0,.int .i64 0,.int .i64 0,.int .i64 0,.int .i64 0,.int .i64 0,.bool false,.bool false,.bool false,.bool false,.int .i64 0,.int .i64 0,.int .i64 0,.int .i64 0] 175 (0,0)):=by rw[hW2,fN _ _ _ m1];exact y3
 have gW2:w.grownBy W2 none:=by rw[hW2];exact HSS.out _ _ _ _ (Nat.le_refl _) gW1
 obtain⟨W3,hW3⟩:∃ W,W=W2.setCells b0 (4+n*4) Q:=⟨_,rfl⟩
 have v0:W3.heap[b0]?=some (.cells (dU (dU A 16 G) (4+n*4) Q).toArray 175 (0,0)):=by rw[hW3];exact lg _ _ _ _ x0
 have v2:W3.heap[b2]?=some (.cells Q.toArray 114 (0,0)):=by rw[hW3,fN _ _ _ m0];exact x2
 have v3:W3.heap[b3]?=some (.cells #[.int .i64 0,.int .i64 0,.int .i64 0,.int .i64 0,.int .i64 0,.int .i64 0,.int .i64 0,.int .i64 0,.int .i64 0,.int .i64 0,.int .i64 0,.int .i64 0,.int .i64 0,.int .i64 0,.int .i64 0,.int .i64 0,.bool false,.bool false,.bool false,.bool false,.int .i64 0,.int .i64 0,.int .i64 0,.int .i64 0] 175 (0,0)):=by rw[hW3,fN _ _ _ m1];exact x3
 have gW3:w.grownBy W3 none:=by rw[hW3];exact HSS.out _ _ _ _ (Nat.le_refl _) gW2
 have e16:∀ i,i<16→(dU A 16 G)[i]?=A[i]?:=fun i hi=>nr _ _ _ _ (.inl hi)
 have e4:∀ i,i<4→(dU (dU A 16 G) (4+n*4) Q)[i]?=A[i]?:=fun i hi=>(nr _ _ _ _ (.inl (by omega))).trans (e16 i (by omega))
 have HT2:Hid (W1.there b0 16 G.toArray.size):=af (dJ y0 (by simp[HA.out,HG.out]))
 have HT3:Hid (W2.there b0 (4+n*4) Q.toArray.size):=af (dJ x0 (by rw[kZ];simp[HA.out,HQ.out];omega))
 have HR2:Hid (W2.rangeAt b2 0 Q):=af (bX x2 (fun j v hv=>by rw[Nat.zero_add];exact hv))
 have k1:W1.cell? ⟨b0,3,none⟩=some (.int .i64 n):=bc y0 HA3.out
 have k2:W2.cell? ⟨b0,3,none⟩=some (.int .i64 n):=bc x0 ((e16 3 (by omega)).trans HA3.out)
 have k3:W3.cell? ⟨b0,3,none⟩=some (.int .i64 n):=bc v0 ((e4 3 (by omega)).trans HA3.out)
 have k4:W3.cell? ⟨b0,2,none⟩=some (.int .i64 lt):=bc v0 ((e4 2 (by omega)).trans HA2.out)
 have k5:W3.cell? ⟨b2,3,none⟩=some (.int .i64 y):=bc v2 HQ3.out
 have k6:W3.frozen? ⟨b0,3,none⟩=false:=ai v0 _
 have k7:W3.frozen? ⟨b0,2,none⟩=false:=ai v0 _
 have hR0:(W3.setCell ⟨b0,3,none⟩ (.int .i64 (n+1))).heap[b0]?=some (.cells ((dU (dU A 16 G) (4+n*4) Q).set 3 (.int .i64 (n+1))).toArray 175 (0,0)):=gT v0 _ _
 have hR3:(W3.setCell ⟨b0,3,none⟩ (.int .i64 (n+1))).heap[b3]?=some (.cells #[.int .i64 0,.int .i64 0,.int .i64 0,.int .i64 0,.int .i64 0,.int .i64 0,.int .i64 0,.int .i64 0,.int .i64 0,.int .i64 0,.int .i64 0,.int .i64 0,.int .i64 0,.int .i64 0,.int .i64 0,.int .i64 0,.bool false,.bool false,.bool false,.bool false,.int .i64 0,.int .i64 0,.int .i64 0,.int .i64 0] 175 (0,0)):=(jp m1).trans v3
 have gW5:w.grownBy (W3.setCell ⟨b0,3,none⟩ (.int .i64 (n+1))) none:=HS0.out _ _ _ gW3
 have oR:∀ v∈((dU (dU A 16 G) (4+n*4) Q).set 3 (.int .i64 (n+1))),v.oneCell'=true:=by
  intro v hv
  have h4:=kL (p:=(·.oneCell')) Q _ (4+n*4) (kL G A 16 HOA.out HOG.out) HOQ.out
  rcases List.mem_or_eq_of_mem_set hv with h1|h1
  ·exact h4 v h1
  ·rw[h1];rfl
 have hRl:((dU (dU A 16 G) (4+n*4) Q).set 3 (.int .i64 (n+1))).length=24:=by simp[kZ,HA.out]
 rw[←HR.out] at hR0 oR hRl
 have HRR:Hid ((W3.setCell ⟨b0,3,none⟩ (.int .i64 (n+1))).rangeAt b0 0 R):=af (bX hR0 (fun j v hv=>by rw[Nat.zero_add];exact hv))
 have HT9:Hid ((W3.setCell ⟨b0,3,none⟩ (.int .i64 (n+1))).there b3 0 R.toArray.size):=af (by
  change _=some (Obj.cells ([.int .i64 0,.int .i64 0,.int .i64 0,.int .i64 0,.int .i64 0,.int .i64 0,.int .i64 0,.int .i64 0,.int .i64 0,.int .i64 0,.int .i64 0,.int .i64 0,.int .i64 0,.int .i64 0,.int .i64 0,.int .i64 0,.bool false,.bool false,.bool false,.bool false,.int .i64 0,.int .i64 0,.int .i64 0,.int .i64 0]:List Value).toArray 175 (0,0)) at hR3
  exact dJ hR3 (by simp[hRl]))
 have HIR:Hid ((Tryz.prog.info? 175).map (·.size)=some R.length):=af (by rw[hRl];exact bC)
 have HBL:Hid (((W3.setCell ⟨b0,3,none⟩ (.int .i64 (n+1))).setCells b3 0 R).heap[b3]?=some (.cells R.toArray 175 (0,0))):=af (by
  have:=gG R 0 (W3.setCell ⟨b0,3,none⟩ (.int .i64 (n+1))) [] [] [.int .i64 0,.int .i64 0,.int .i64 0,.int .i64 0,.int .i64 0,.int .i64 0,.int .i64 0,.int .i64 0,.int .i64 0,.int .i64 0,.int .i64 0,.int .i64 0,.int .i64 0,.int .i64 0,.int .i64 0,.int .i64 0,.bool false,.bool false,.bool false,.bool false,.int .i64 0,.int .i64 0,.int .i64 0,.int .i64 0] rfl (by rw[hRl];rfl) (by simpa using hR3)
  simpa using this)
 have HGR:Hid (w.grownBy ((W3.setCell ⟨b0,3,none⟩ (.int .i64 (n+1))).setCells b3 0 R) none):=af (HSS.out _ _ _ _ s3 gW5)
 have HOR:Hid (R.toArray.all (·.oneCell')=true):=af (all_oneCell_toArray oR)
 have HOGA:Hid (G.toArray.all (·.oneCell')=true):=af (all_oneCell_toArray HOG.out)
 have HOQA:Hid (Q.toArray.all (·.oneCell')=true):=af (all_oneCell_toArray HOQ.out)
 have HIGs:Hid ((Tryz.prog.info? 173).map (·.size)=some G.toArray.size):=af (by simpa using HIG.out)
 have HIQs:Hid ((Tryz.prog.info? 114).map (·.size)=some Q.toArray.size):=af (by simpa using HIQ.out)
 have HIRs:Hid ((Tryz.prog.info? 175).map (·.size)=some R.toArray.size):=af (by simpa using HIR.out)
 have HW1:Hid ((w1.alloc (.cells #[.bool false,.bool false,.bool false,.bool false,.int .i64 0,.int .i64 0,.int .i64 0,.int .i64 0] 173)).setCells w1.heap.size 0 G.toArray.toList=W1):=af hW1.symm
 have HW2:Hid (W1.setCells b0 16 G.toArray.toList=W2):=af hW2.symm
 have HW3:Hid (W2.setCells b0 (4+n*4) Q.toArray.toList=W3):=af hW3.symm
 have hi0:(0:Int)≤(n:Int):=by omega
 have hi1:(n:Int)<3:=by omega
 have n0':=n0.symm
 have m0':=m0.symm
 clear hW1 hW2 hW3 z0 z1 z2 z3 y0 y2 y3 x0 x2 x3 v0 v2 v3 gW1 gW2 gW3 gW5 e16 e4 hR0 hR3 oR HR hB0 hB2 hB3 l0 l2 l3 HS0 HSS HG2 s3 s4 HA2 HA3 HQ3 HOA HOQ HOG
 go_wp2_with (first
  |(refine wpList_store_mid rfl 173 (.tmp 8) (.tmp 16) rfl w1.heap.size 0 G.toArray rfl rfl HT1.out HIGs.out HOGA.out ?_;rw[HW1.out])
  |(refine wpList_load_mid rfl 173 (.tmp 8) rfl w1.heap.size 0 rfl G _ HRG.out Tryz.underlying173 rfl HIG.out ?_)
  |(refine wpList_store_mid rfl 173 (.tmp 32) (.tmp 31) rfl b0 16 G.toArray rfl rfl HT2.out HIGs.out HOGA.out ?_;rw[HW2.out])
  |(refine wpList_load_mid rfl 114 (.tmp 5) rfl b2 0 rfl Q _ HR2.out Tryz.underlying114 rfl HIQ.out ?_)
  |(refine wpList_store_mid rfl 114 (.tmp 37) (.tmp 35) rfl b0 (4+n*4) Q.toArray rfl rfl HT3.out HIQs.out HOQA.out ?_;rw[HW3.out])
  |(refine wpList_load_mid rfl 175 (.tmp 3) rfl b0 0 rfl R _ HRR.out Tryz.underlying175 rfl HIR.out ?_)
  |(refine wpList_store_mid rfl 175 (.tmp 6) (.tmp 50) rfl b3 0 R.toArray rfl rfl HT9.out HIRs.out HOR.out ?_))
 refine bodyPost_ret (aO Tryz.results127 rfl HBL.out Tryz.underlying175 rfl HIRs.out rfl) rfl ⟨rfl,?_⟩
 exact HGR.out
theorem Bj (A C Q G:List Value)(lt y:Int)(n:Nat)(hn:n<3)(hA:A.length=24)(hC:C.length=7)(hQ:Q.length=4)(hG:G.length=8)
  (a2:A[2]?=some (.int .i64 lt)) (a3:A[3]?=some (.int .i64 n)) (q3:Q[3]?=some (.int .i64 y))
  (oA:∀ v∈A,v.oneCell'=true) (oQ:∀ v∈Q,v.oneCell'=true) (oG:∀ v∈G,v.oneCell'=true) (hlt:lt<y) (w:World)
  (HGO:Hid (∀ W,Calls Tryz.prog 138 #[.agg (A.drop 16).toArray,.agg C.toArray,.agg Q.toArray] W fun r w'=>r=.returned (.tuple #[.agg G.toArray,.bool true])∧W.grownBy w' none)) :
  Calls Tryz.prog 127 #[.agg A.toArray,.agg C.toArray,.agg Q.toArray] w fun r w'=>r=.returned (.tuple #[.agg (((dU (dU A 16 G) (4+n*4) Q).set 3 (.int .i64 (n+1))).set 2 (.int .i64 y)).toArray,.bool true])∧w.grownBy w' none:=by
 obtain⟨R,hR⟩:∃ R,R=(((dU (dU A 16 G) (4+n*4) Q).set 3 (.int .i64 (n+1))).set 2 (.int .i64 y)):=⟨_,rfl⟩
 rw[←hR]
 have HR:=af hR
 clear hR
 have HWA:Hid (w.grownBy ((((w.alloc (.cells A.toArray 175)).alloc (.cells C.toArray 205)).alloc (.cells Q.toArray 114)).alloc (.cells #[.int .i64 0,.int .i64 0,.int .i64 0,.int .i64 0,.int .i64 0,.int .i64 0,.int .i64 0,.int .i64 0,.int .i64 0,.int .i64 0,.int .i64 0,.int .i64 0,.int .i64 0,.int .i64 0,.int .i64 0,.int .i64 0,.bool false,.bool false,.bool false,.bool false,.int .i64 0,.int .i64 0,.int .i64 0,.int .i64 0] 175)) none):=af (ab (ab (ab (ab (ag _ _) _) _) _) _)
 have hb0:((((w.alloc (.cells A.toArray 175)).alloc (.cells C.toArray 205)).alloc (.cells Q.toArray 114)).alloc (.cells #[.int .i64 0,.int .i64 0,.int .i64 0,.int .i64 0,.int .i64 0,.int .i64 0,.int .i64 0,.int .i64 0,.int .i64 0,.int .i64 0,.int .i64 0,.int .i64 0,.int .i64 0,.int .i64 0,.int .i64 0,.int .i64 0,.bool false,.bool false,.bool false,.bool false,.int .i64 0,.int .i64 0,.int .i64 0,.int .i64 0] 175)).heap[w.heap.size]?=some (.cells A.toArray 175 (0,0)):=by
  rw[Below.heap_alloc _ _ _ (by simp;omega),Below.heap_alloc _ _ _ (by simp;omega),Below.heap_alloc _ _ _ (by simp)]
  exact bn rfl
 have hb1:((((w.alloc (.cells A.toArray 175)).alloc (.cells C.toArray 205)).alloc (.cells Q.toArray 114)).alloc (.cells #[.int .i64 0,.int .i64 0,.int .i64 0,.int .i64 0,.int .i64 0,.int .i64 0,.int .i64 0,.int .i64 0,.int .i64 0,.int .i64 0,.int .i64 0,.int .i64 0,.int .i64 0,.int .i64 0,.int .i64 0,.int .i64 0,.bool false,.bool false,.bool false,.bool false,.int .i64 0,.int .i64 0,.int .i64 0,.int .i64 0] 175)).heap[w.heap.size+1]?=some (.cells C.toArray 205 (0,0)):=by
  rw[Below.heap_alloc _ _ _ (by simp),Below.heap_alloc _ _ _ (by simp)]
  exact bn (by simp)
 have hb2:((((w.alloc (.cells A.toArray 175)).alloc (.cells C.toArray 205)).alloc (.cells Q.toArray 114)).alloc (.cells #[.int .i64 0,.int .i64 0,.int .i64 0,.int .i64 0,.int .i64 0,.int .i64 0,.int .i64 0,.int .i64 0,.int .i64 0,.int .i64 0,.int .i64 0,.int .i64 0,.int .i64 0,.int .i64 0,.int .i64 0,.int .i64 0,.bool false,.bool false,.bool false,.bool false,.int .i64 0,.int .i64 0,.int .i64 0,.int .i64 0] 175)).heap[w.heap.size+1+1]?=some (.cells Q.toArray 114 (0,0)):=by
  rw[Below.heap_alloc _ _ _ (by simp)]
  exact bn (by simp)
 have hb3:((((w.alloc (.cells A.toArray 175)).alloc (.cells C.toArray 205)).alloc (.cells Q.toArray 114)).alloc (.cells #[.int .i64 0,.int .i64 0,.int .i64 0,.int .i64 0,.int .i64 0,.int .i64 0,.int .i64 0,.int .i64 0,.int .i64 0,.int .i64 0,.int .i64 0,.int .i64 0,.int .i64 0,.int .i64 0,.int .i64 0,.int .i64 0,.bool false,.bool false,.bool false,.bool false,.int .i64 0,.int .i64 0,.int .i64 0,.int .i64 0] 175)).heap[w.heap.size+1+1+1]?=some (.cells #[.int .i64 0,.int .i64 0,.int .i64 0,.int .i64 0,.int .i64 0,.int .i64 0,.int .i64 0,.int .i64 0,.int .i64 0,.int .i64 0,.int .i64 0,.int .i64 0,.int .i64 0,.int .i64 0,.int .i64 0,.int .i64 0,.bool false,.bool false,.bool false,.bool false,.int .i64 0,.int .i64 0,.int .i64 0,.int .i64 0] 175 (0,0)):=bn (by simp)
 have HB0:=af hb0
 have HB2:=af hb2
 have HB3:=af hb3
 have HR0:Hid (((((w.alloc (.cells A.toArray 175)).alloc (.cells C.toArray 205)).alloc (.cells Q.toArray 114)).alloc (.cells #[.int .i64 0,.int .i64 0,.int .i64 0,.int .i64 0,.int .i64 0,.int .i64 0,.int .i64 0,.int .i64 0,.int .i64 0,.int .i64 0,.int .i64 0,.int .i64 0,.int .i64 0,.int .i64 0,.int .i64 0,.int .i64 0,.bool false,.bool false,.bool false,.bool false,.int .i64 0,.int .i64 0,.int .i64 0,.int .i64 0] 175)).rangeAt w.heap.size 16 (A.drop 16)):=af (bX hb0 (fun j v hv=>by rw[List.getElem?_drop] at hv;exact hv))
 have HR1:Hid (((((w.alloc (.cells A.toArray 175)).alloc (.cells C.toArray 205)).alloc (.cells Q.toArray 114)).alloc (.cells #[.int .i64 0,.int .i64 0,.int .i64 0,.int .i64 0,.int .i64 0,.int .i64 0,.int .i64 0,.int .i64 0,.int .i64 0,.int .i64 0,.int .i64 0,.int .i64 0,.int .i64 0,.int .i64 0,.int .i64 0,.int .i64 0,.bool false,.bool false,.bool false,.bool false,.int .i64 0,.int .i64 0,.int .i64 0,.int .i64 0] 175)).rangeAt (w.heap.size+1) 0 C):=af (bX hb1 (fun j v hv=>by rw[Nat.zero_add];exact hv))
 have HR2:Hid (((((w.alloc (.cells A.toArray 175)).alloc (.cells C.toArray 205)).alloc (.cells Q.toArray 114)).alloc (.cells #[.int .i64 0,.int .i64 0,.int .i64 0,.int .i64 0,.int .i64 0,.int .i64 0,.int .i64 0,.int .i64 0,.int .i64 0,.int .i64 0,.int .i64 0,.int .i64 0,.int .i64 0,.int .i64 0,.int .i64 0,.int .i64 0,.bool false,.bool false,.bool false,.bool false,.int .i64 0,.int .i64 0,.int .i64 0,.int .i64 0] 175)).rangeAt (w.heap.size+1+1) 0 Q):=af (bX hb2 (fun j v hv=>by rw[Nat.zero_add];exact hv))
 obtain⟨D,hD⟩:∃ D,D=A.drop 16:=⟨_,rfl⟩
 rw[←hD] at HR0 HGO
 have hDl:D.length=8:=by rw[hD];simp[hA]
 have HID:Hid ((Tryz.prog.info? 173).map (·.size)=some D.length):=af (by rw[hDl];exact gA)
 have HIC:Hid ((Tryz.prog.info? 205).map (·.size)=some C.length):=af (by rw[hC];exact iI)
 have HIQ:Hid ((Tryz.prog.info? 114).map (·.size)=some Q.length):=af (by rw[hQ];exact jU)
 have HIG:Hid ((Tryz.prog.info? 173).map (·.size)=some G.length):=af (by rw[hG];exact gA)
 have HA:=af hA
 have HQ:=af hQ
 have HG:=af hG
 have HA2:=af a2
 have HA3:=af a3
 have HQ3:=af q3
 have HOA:=af oA
 have HOQ:=af oQ
 have HOG:=af oG
 clear hD hb0 hb1 hb2 hb3 a2 a3 q3 oA oQ oG
 go_enter Tryz.func127,Tryz.ntmps127
 go_wp2_with (first
  |(refine wpList_load_mid rfl 173 (.tmp 11) rfl w.heap.size 16 rfl D _ HR0.out Tryz.underlying173 rfl HID.out ?_)
  |(refine wpList_load_mid rfl 205 (.tmp 4) rfl (w.heap.size+1) 0 rfl C _ HR1.out Tryz.underlying205 rfl HIC.out ?_)
  |(refine wpList_load_mid rfl 114 (.tmp 5) rfl (w.heap.size+1+1) 0 rfl Q _ HR2.out Tryz.underlying114 rfl HIQ.out ?_))
 go_at_call 138
 refine (HGO.out _).mono ?_
 rintro e w1 ⟨rfl,hg1⟩
 have HG1:=af hg1
 clear hg1
 have hB0:=(HG1.out.block _ (lt_of_block HB0.out) (by simp)).trans HB0.out
 have hB2:=(HG1.out.block _ (lt_of_block HB2.out) (by simp)).trans HB2.out
 have hB3:=(HG1.out.block _ (lt_of_block HB3.out) (by simp)).trans HB3.out
 have HG2:Hid (w.grownBy w1 none):=af (ae HWA.out HG1.out)
 have l0:=lt_of_block hB0
 have l2:=lt_of_block hB2
 have l3:=lt_of_block hB3
 have HS0:Hid (∀ W i v,w.grownBy W none→w.grownBy (W.setCell ⟨w.heap.size,i,none⟩ v) none):=af (fun W i v h=>aj h (.inr (by show w.heap.size≤w.heap.size;omega)) _)
 have HSS:Hid (∀ W b o l,w.heap.size≤b→w.grownBy W none→w.grownBy (W.setCells b o l) none):=af (fun W b o l hb h=>cw hb _ _ h)
 have m0:(w.heap.size+1+1)≠w.heap.size:=by omega
 have m1:(w.heap.size+1+1+1)≠w.heap.size:=by omega
 have s3:w.heap.size≤w.heap.size+1+1+1:=by omega
 have s4:w.heap.size≤w1.heap.size:=by omega
 clear HWA HB0 HB2 HB3 HG1 HR0 HR1 HR2 HGO HID HIC hDl hC
 generalize w.heap.size+1+1+1=b3 at hB3 HSS m1 l3 s3 ⊢
 generalize w.heap.size+1+1=b2 at hB2 m0 l2 ⊢
 generalize w.heap.size+1=b1
 generalize w.heap.size=b0 at hB0 HS0 HSS m0 m1 l0 s3 s4 ⊢
 have z0:(w1.alloc (.cells #[.bool false,.bool false,.bool false,.bool false,.int .i64 0,.int .i64 0,.int .i64 0,.int .i64 0] 173)).heap[w1.heap.size]?=some (.cells #[.bool false,.bool false,.bool false,.bool false,.int .i64 0,.int .i64 0,.int .i64 0,.int .i64 0] 173 (0,0)):=bn rfl
 have z1:(w1.alloc (.cells #[.bool false,.bool false,.bool false,.bool false,.int .i64 0,.int .i64 0,.int .i64 0,.int .i64 0] 173)).heap[b0]?=some (.cells A.toArray 175 (0,0)):=(Below.heap_alloc _ _ _ l0).trans hB0
 have z2:(w1.alloc (.cells #[.bool false,.bool false,.bool false,.bool false,.int .i64 0,.int .i64 0,.int .i64 0,.int .i64 0] 173)).heap[b2]?=some (.cells Q.toArray 114 (0,0)):=(Below.heap_alloc _ _ _ l2).trans hB2
 have z3:(w1.alloc (.cells #[.bool false,.bool false,.bool false,.bool false,.int .i64 0,.int .i64 0,.int .i64 0,.int .i64 0] 173)).heap[b3]?=some (.cells #[.int .i64 0,.int .i64 0,.int .i64 0,.int .i64 0,.int .i64 0,.int .i64 0,.int .i64 0,.int .i64 0,.int .i64 0,.int .i64 0,.int .i64 0,.int .i64 0,.int .i64 0,.int .i64 0,.int .i64 0,.int .i64 0,.bool false,.bool false,.bool false,.bool false,.int .i64 0,.int .i64 0,.int .i64 0,.int .i64 0] 175 (0,0)):=(Below.heap_alloc _ _ _ l3).trans hB3
 have n0:b0≠w1.heap.size:=by omega
 have n2:b2≠w1.heap.size:=by omega
 have n3:b3≠w1.heap.size:=by omega
 have HT1:Hid ((w1.alloc (.cells #[.bool false,.bool false,.bool false,.bool false,.int .i64 0,.int .i64 0,.int .i64 0,.int .i64 0] 173)).there w1.heap.size 0 G.toArray.size):=af (by
  change _=some (Obj.cells ([.bool false,.bool false,.bool false,.bool false,.int .i64 0,.int .i64 0,.int .i64 0,.int .i64 0]:List Value).toArray 173 (0,0)) at z0
  exact dJ z0 (by simp[HG.out]))
 obtain⟨W1,hW1⟩:∃ W,W=(w1.alloc (.cells #[.bool false,.bool false,.bool false,.bool false,.int .i64 0,.int .i64 0,.int .i64 0,.int .i64 0] 173)).setCells w1.heap.size 0 G:=⟨_,rfl⟩
 have y0:W1.heap[b0]?=some (.cells A.toArray 175 (0,0)):=by rw[hW1,fN _ _ _ n0];exact z1
 have y2:W1.heap[b2]?=some (.cells Q.toArray 114 (0,0)):=by rw[hW1,fN _ _ _ n2];exact z2
 have y3:W1.heap[b3]?=some (.cells #[.int .i64 0,.int .i64 0,.int .i64 0,.int .i64 0,.int .i64 0,.int .i64 0,.int .i64 0,.int .i64 0,.int .i64 0,.int .i64 0,.int .i64 0,.int .i64 0,.int .i64 0,.int .i64 0,.int .i64 0,.int .i64 0,.bool false,.bool false,.bool false,.bool false,.int .i64 0,.int .i64 0,.int .i64 0,.int .i64 0] 175 (0,0)):=by rw[hW1,fN _ _ _ n3];exact z3
 have HRG:Hid (W1.rangeAt w1.heap.size 0 G):=af (by
  rw[hW1]
  refine World.rangeAt_setCells_same _ _ _ _ ?_
  have:=HT1.out
  simpa using this)
 have gW1:w.grownBy W1 none:=by rw[hW1];exact HSS.out _ _ _ _ (by omega) (ab HG2.out _)
 obtain⟨W2,hW2⟩:∃ W,W=W1.setCells b0 16 G:=⟨_,rfl⟩
 have x0:W2.heap[b0]?=some (.cells (dU A 16 G).toArray 175 (0,0)):=by rw[hW2];exact lg _ _ _ _ y0
 have x2:W2.heap[b2]?=some (.cells Q.toArray 114 (0,0)):=by rw[hW2,fN _ _ _ m0];exact y2
 have x3:W2.heap[b3]?=some (.cells #[.int .i64 0,.int .i64 0,.int .i64 0,.int .i64 0,.int .i64 0,.int .i64 0,.int .i64 0,.int .i64 0,.int .i64 0,.int .i64 0,.int .i64 0,.int .i64 0,.int .i64 0,.int .i64 0,.int .i64 0,.int .i64 0,.bool false,.bool false,.bool false,.bool false,.int .i64 0,.int .i64 0,.int .i64 0,.int .i64 0] 175 (0,0)):=by rw[hW2,fN _ _ _ m1];exact y3
 have gW2:w.grownBy W2 none:=by rw[hW2];exact HSS.out _ _ _ _ (Nat.le_refl _) gW1
 obtain⟨W3,hW3⟩:∃ W,W=W2.setCells b0 (4+n*4) Q:=⟨_,rfl⟩
 have v0:W3.heap[b0]?=some (.cells (dU (dU A 16 G) (4+n*4) Q).toArray 175 (0,0)):=by rw[hW3];exact lg _ _ _ _ x0
 have v2:W3.heap[b2]?=some (.cells Q.toArray 114 (0,0)):=by rw[hW3,fN _ _ _ m0];exact x2
 have v3:W3.heap[b3]?=some (.cells #[.int .i64 0,.int .i64 0,.int .i64 0,.int .i64 0,.int .i64 0,.int .i64 0,.int .i64 0,.int .i64 0,.int .i64 0,.int .i64 0,.int .i64 0,.int .i64 0,.int .i64 0,.int .i64 0,.int .i64 0,.int .i64 0,.bool false,.bool false,.bool false,.bool false,.int .i64 0,.int .i64 0,.int .i64 0,.int .i64 0] 175 (0,0)):=by rw[hW3,fN _ _ _ m1];exact x3
 have gW3:w.grownBy W3 none:=by rw[hW3];exact HSS.out _ _ _ _ (Nat.le_refl _) gW2
 have e16:∀ i,i<16→(dU A 16 G)[i]?=A[i]?:=fun i hi=>nr _ _ _ _ (.inl hi)
 have e4:∀ i,i<4→(dU (dU A 16 G) (4+n*4) Q)[i]?=A[i]?:=fun i hi=>(nr _ _ _ _ (.inl (by omega))).trans (e16 i (by omega))
 have HT2:Hid (W1.there b0 16 G.toArray.size):=af (dJ y0 (by simp[HA.out,HG.out]))
 have HT3:Hid (W2.there b0 (4+n*4) Q.toArray.size):=af (dJ x0 (by rw[kZ];simp[HA.out,HQ.out];omega))
 have HR2:Hid (W2.rangeAt b2 0 Q):=af (bX x2 (fun j v hv=>by rw[Nat.zero_add];exact hv))
 have k1:W1.cell? ⟨b0,3,none⟩=some (.int .i64 n):=bc y0 HA3.out
 have k2:W2.cell? ⟨b0,3,none⟩=some (.int .i64 n):=bc x0 ((e16 3 (by omega)).trans HA3.out)
 have k3:W3.cell? ⟨b0,3,none⟩=some (.int .i64 n):=bc v0 ((e4 3 (by omega)).trans HA3.out)
 have k4:W3.cell? ⟨b0,2,none⟩=some (.int .i64 lt):=bc v0 ((e4 2 (by omega)).trans HA2.out)
 have k5:W3.cell? ⟨b2,3,none⟩=some (.int .i64 y):=bc v2 HQ3.out
 have k6:W3.frozen? ⟨b0,3,none⟩=false:=ai v0 _
 have k7:W3.frozen? ⟨b0,2,none⟩=false:=ai v0 _
 have hR0:((W3.setCell ⟨b0,3,none⟩ (.int .i64 (n+1))).setCell ⟨b0,2,none⟩ (.int .i64 y)).heap[b0]?=some (.cells (((dU (dU A 16 G) (4+n*4) Q).set 3 (.int .i64 (n+1))).set 2 (.int .i64 y)).toArray 175 (0,0)):=gT (gT v0 _ _) _ _
 have hR3:((W3.setCell ⟨b0,3,none⟩ (.int .i64 (n+1))).setCell ⟨b0,2,none⟩ (.int .i64 y)).heap[b3]?=some (.cells #[.int .i64 0,.int .i64 0,.int .i64 0,.int .i64 0,.int .i64 0,.int .i64 0,.int .i64 0,.int .i64 0,.int .i64 0,.int .i64 0,.int .i64 0,.int .i64 0,.int .i64 0,.int .i64 0,.int .i64 0,.int .i64 0,.bool false,.bool false,.bool false,.bool false,.int .i64 0,.int .i64 0,.int .i64 0,.int .i64 0] 175 (0,0)):=(jp m1).trans ((jp m1).trans v3)
 have gW5:w.grownBy ((W3.setCell ⟨b0,3,none⟩ (.int .i64 (n+1))).setCell ⟨b0,2,none⟩ (.int .i64 y)) none:=HS0.out _ _ _ (HS0.out _ _ _ gW3)
 have oR:∀ v∈(((dU (dU A 16 G) (4+n*4) Q).set 3 (.int .i64 (n+1))).set 2 (.int .i64 y)),v.oneCell'=true:=by
  intro v hv
  have h4:=kL (p:=(·.oneCell')) Q _ (4+n*4) (kL G A 16 HOA.out HOG.out) HOQ.out
  rcases List.mem_or_eq_of_mem_set hv with h1|h1
  ·rcases List.mem_or_eq_of_mem_set h1 with h2|h2
   ·exact h4 v h2
   ·rw[h2];rfl
  ·rw[h1];rfl
 have hRl:(((dU (dU A 16 G) (4+n*4) Q).set 3 (.int .i64 (n+1))).set 2 (.int .i64 y)).length=24:=by simp[kZ,HA.out]
 rw[←HR.out] at hR0 oR hRl
 have HRR:Hid (((W3.setCell ⟨b0,3,none⟩ (.int .i64 (n+1))).setCell ⟨b0,2,none⟩ (.int .i64 y)).rangeAt b0 0 R):=af (bX hR0 (fun j v hv=>by rw[Nat.zero_add];exact hv))
 have HT9:Hid (((W3.setCell ⟨b0,3,none⟩ (.int .i64 (n+1))).setCell ⟨b0,2,none⟩ (.int .i64 y)).there b3 0 R.toArray.size):=af (by
  change _=some (Obj.cells ([.int .i64 0,.int .i64 0,.int .i64 0,.int .i64 0,.int .i64 0,.int .i64 0,.int .i64 0,.int .i64 0,.int .i64 0,.int .i64 0,.int .i64 0,.int .i64 0,.int .i64 0,.int .i64 0,.int .i64 0,.int .i64 0,.bool false,.bool false,.bool false,.bool false,.int .i64 0,.int .i64 0,.int .i64 0,.int .i64 0]:List Value).toArray 175 (0,0)) at hR3
  exact dJ hR3 (by simp[hRl]))
 have HIR:Hid ((Tryz.prog.info? 175).map (·.size)=some R.length):=af (by rw[hRl];exact bC)
 have HBL:Hid ((((W3.setCell ⟨b0,3,none⟩ (.int .i64 (n+1))).setCell ⟨b0,2,none⟩ (.int .i64 y)).setCells b3 0 R).heap[b3]?=some (.cells R.toArray 175 (0,0))):=af (by
  have:=gG R 0 ((W3.setCell ⟨b0,3,none⟩ (.int .i64 (n+1))).setCell ⟨b0,2,none⟩ (.int .i64 y)) [] [] [.int .i64 0,.int .i64 0,.int .i64 0,.int .i64 0,.int .i64 0,.int .i64 0,.int .i64 0,.int .i64 0,.int .i64 0,.int .i64 0,.int .i64 0,.int .i64 0,.int .i64 0,.int .i64 0,.int .i64 0,.int .i64 0,.bool false,.bool false,.bool false,.bool false,.int .i64 0,.int .i64 0,.int .i64 0,.int .i64 0] rfl (by rw[hRl];rfl) (by simpa using hR3)
  simpa using this)
 have HGR:Hid (w.grownBy (((W3.setCell ⟨b0,3,none⟩ (.int .i64 (n+1))).setCell ⟨b0,2,none⟩ (.int .i64 y)).setCells b3 0 R) none):=af (HSS.out _ _ _ _ s3 gW5)
 have HOR:Hid (R.toArray.all (·.oneCell')=true):=af (all_oneCell_toArray oR)
 have HOGA:Hid (G.toArray.all (·.oneCell')=true):=af (all_oneCell_toArray HOG.out)
 have HOQA:Hid (Q.toArray.all (·.oneCell')=true):=af (all_oneCell_toArray HOQ.out)
 have HIGs:Hid ((Tryz.prog.info? 173).map (·.size)=some G.toArray.size):=af (by simpa using HIG.out)
 have HIQs:Hid ((Tryz.prog.info? 114).map (·.size)=some Q.toArray.size):=af (by simpa using HIQ.out)
 have HIRs:Hid ((Tryz.prog.info? 175).map (·.size)=some R.toArray.size):=af (by simpa using HIR.out)
 have HW1:Hid ((w1.alloc (.cells #[.bool false,.bool false,.bool false,.bool false,.int .i64 0,.int .i64 0,.int .i64 0,.int .i64 0] 173)).setCells w1.heap.size 0 G.toArray.toList=W1):=af hW1.symm
 have HW2:Hid (W1.setCells b0 16 G.toArray.toList=W2):=af hW2.symm
 have HW3:Hid (W2.setCells b0 (4+n*4) Q.toArray.toList=W3):=af hW3.symm
 have hi0:(0:Int)≤(n:Int):=by omega
 have hi1:(n:Int)<3:=by omega
 have n0':=n0.symm
 have m0':=m0.symm
 clear hW1 hW2 hW3 z0 z1 z2 z3 y0 y2 y3 x0 x2 x3 v0 v2 v3 gW1 gW2 gW3 gW5 e16 e4 hR0 hR3 oR HR hB0 hB2 hB3 l0 l2 l3 HS0 HSS HG2 s3 s4 HA2 HA3 HQ3 HOA HOQ HOG
 go_wp2_with (first
  |(refine wpList_store_mid rfl 173 (.tmp 8) (.tmp 16) rfl w1.heap.size 0 G.toArray rfl rfl HT1.out HIGs.out HOGA.out ?_;rw[HW1.out])
  |(refine wpList_load_mid rfl 173 (.tmp 8) rfl w1.heap.size 0 rfl G _ HRG.out Tryz.underlying173 rfl HIG.out ?_)
  |(refine wpList_store_mid rfl 173 (.tmp 32) (.tmp 31) rfl b0 16 G.toArray rfl rfl HT2.out HIGs.out HOGA.out ?_;rw[HW2.out])
  |(refine wpList_load_mid rfl 114 (.tmp 5) rfl b2 0 rfl Q _ HR2.out Tryz.underlying114 rfl HIQ.out ?_)
  |(refine wpList_store_mid rfl 114 (.tmp 37) (.tmp 35) rfl b0 (4+n*4) Q.toArray rfl rfl HT3.out HIQs.out HOQA.out ?_;rw[HW3.out])
  |(refine wpList_load_mid rfl 175 (.tmp 3) rfl b0 0 rfl R _ HRR.out Tryz.underlying175 rfl HIR.out ?_)
  |(refine wpList_store_mid rfl 175 (.tmp 6) (.tmp 50) rfl b3 0 R.toArray rfl rfl HT9.out HIRs.out HOR.out ?_))
 refine bodyPost_ret (aO Tryz.results127 rfl HBL.out Tryz.underlying175 rfl HIRs.out rfl) rfl ⟨rfl,?_⟩
 exact HGR.out
end Go.Proofs.YthlhbjnkohinmabGreat
